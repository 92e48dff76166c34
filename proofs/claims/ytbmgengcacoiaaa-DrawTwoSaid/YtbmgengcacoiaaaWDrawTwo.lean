/-
  DrawTwo is true for every input: two are unlike and from 0 to below n, and each pair is drawn. No condition.
-/
import Derived.Test.YtbmgengcacoiaaaDrawD
import Derived.Test.YtbmgengcacoiaaaAround
namespace Go.Proofs.Ytbmgengcacoiaaa.drawTwo
open Go.ChangeShapes Go.WideShapes Go.ChangeAt Go.RowKit
open Go.Proofs.Ytbmgengcacoiaaa.draw
set_option linter.unusedVariables false
set_option linter.unusedSimpArgs false

theorem said2 {w w' : World} {t : TypeId} {x y : Int} (h : Bl (w.alloc (.cells #[U x, U y] t)) w') : ∀ i, i < [x, y].length → w'.cell? ⟨w.heap.size, 0 + i, none⟩ = some (U ([x, y].getD i 0)) := by
  intro i hi
  have hs : (w.alloc (.cells #[U x, U y] t)).heap.size = w.heap.size + 1 := by simp
  have hlt : w.heap.size < (w.alloc (.cells #[U x, U y] t)).heap.size := by rw [hs]; exact Nat.lt_succ_self _
  rw [h.cell (p := ⟨w.heap.size, 0 + i, none⟩) hlt]
  match i, hi with
  | 0, _ => simp
  | 1, _ => simp

set_option maxHeartbeats 2000000 in
theorem walk (seed : Int) (l0 : 0 ≤ seed) (u0 : seed ≤ 18446744073709551615) (n : Int) (l1 : -9223372036854775808 ≤ n) (u1 : n ≤ 9223372036854775807)
    (i : Int) (l2 : -9223372036854775808 ≤ i) (u2 : i ≤ 9223372036854775807) (j : Int) (l3 : -9223372036854775808 ≤ j) (u3 : j ≤ 9223372036854775807) (w : World) :
    Calls Try.prog 3 #[.int .u64 seed, .int .i64 n, .int .i64 i, .int .i64 j] w fun e w' => e = .returned (.bool true) ∧ Bl w w' := by
  have A0 := fun w => around_any n 59 w l1 u1 (by omega) (by omega)
  have n0 := around_lo n 59 (by omega); have n1 := around_hi n 59 (by omega)
  obtain ⟨m', hm'⟩ : ∃ t, around n 59 = t := ⟨_, rfl⟩
  rw [hm'] at A0 n0 n1
  obtain ⟨m, hm⟩ : ∃ t, 2 + m' = t := ⟨_, rfl⟩
  have m0 : 2 ≤ m := by omega
  have m1 : m ≤ 60 := by omega
  have A1 := fun w => around_any i m w l2 u2 (by omega) (by omega)
  have A2 := fun w => around_any j m w l3 u3 (by omega) (by omega)
  have i0 := around_lo i m (by omega); have i1 := around_hi i m (by omega)
  have j0 := around_lo j m (by omega); have j1 := around_hi j m (by omega)
  obtain ⟨p, hp⟩ : ∃ t, around i m = t := ⟨_, rfl⟩
  obtain ⟨q, hq⟩ : ∃ t, around j m = t := ⟨_, rfl⟩
  rw [hp] at A1 i0 i1; rw [hq] at A2 j0 j1
  replace A0 := Lib.hid A0; replace A1 := Lib.hid A1; replace A2 := Lib.hid A2
  clear hm' hp hq
  replace hm := Lib.hid hm
  obtain ⟨X, hX⟩ : ∃ t, hd [] seed % m = t := ⟨_, rfl⟩
  obtain ⟨Y, hY⟩ : ∃ t, hd [] (st2 [] seed) % (m - 1) = t := ⟨_, rfl⟩
  have x0 := Int.emod_nonneg (hd [] seed) (show m ≠ 0 by omega)
  have x1 := Int.emod_lt_of_pos (hd [] seed) (show 0 < m by omega)
  have y0 := Int.emod_nonneg (hd [] (st2 [] seed)) (show m - 1 ≠ 0 by omega)
  have y1 := Int.emod_lt_of_pos (hd [] (st2 [] seed)) (show 0 < m - 1 by omega)
  rw [hX] at x0 x1; rw [hY] at y0 y1
  have T1 := Lib.hid (fun w b (h : At w b [] seed 0) => two_any w b [] seed m X Y 0 h (by omega) (by omega) m0 (by omega) hX hY)
  clear hX hY
  obtain ⟨Z, hZ⟩ : ∃ t, (if X ≤ Y then Y + 1 else Y) = t := ⟨_, rfl⟩
  have z : Z ≠ X ∧ 0 ≤ Z ∧ Z < m := by
    by_cases h : X ≤ Y
    · rw [if_pos h] at hZ; omega
    · rw [if_neg h] at hZ; omega
  rw [hZ] at T1
  clear hZ y0 y1 Y
  obtain ⟨z0, z1, z2⟩ := z
  have hxz : (X == Z) = false := beq_eq_false_iff_ne.2 (fun h => z0 h.symm)
  go_enter Try.func3, Try.ntmps3
  go_wp2_with fail
  refine (A0.out _).mono ?_
  rintro e w' ⟨rfl, rfl⟩
  go_wp2_with fail
  rw [hm.out]
  refine (new_nil _ seed none 0 l0 u0).mono ?_
  rintro e w1 ⟨b, rfl, hb, hat, hb1⟩
  go_wp2_with fail
  refine (T1.out _ b hat.weak).mono ?_
  rintro e w2 ⟨rfl, hat2, hg2⟩
  have hb2 := Lib.hid (hb1.gp hg2 hb)
  clear hat hb1 hg2
  go_wp2_with fail
  refine (used_any _ b _ _ _ hat2).mono ?_
  rintro e w' ⟨rfl, rfl⟩
  clear hat2
  go_wp2_with fail
  refine (A1.out _).mono ?_
  rintro e w' ⟨rfl, rfl⟩
  go_wp2_with fail
  refine (A2.out _).mono ?_
  rintro e w' ⟨rfl, rfl⟩
  by_cases hpq : p = q
  · have hpq' : (p == q) = true := by simp [hpq]
    clear hpq
    go_wp2_with fail
    refine (lives02 _).mono ?_
    rintro e w3 ⟨rfl, hb3⟩
    go_wp2_with fail
    go_ret
    exact ⟨rfl, hb2.out.tr hb3⟩
  · have hpq' : (p == q) = false := beq_eq_false_iff_ne.2 hpq
    obtain ⟨k, hk⟩ : ∃ k, (if p < q then q - 1 else q) = k := ⟨_, rfl⟩
    have T2 : ∀ w b, At w b [p, k] seed 0 → Calls Try.prog 10 #[ptr b, .int .i64 m] w fun e w' => e = .returned (.tuple #[.int .i64 p, .int .i64 q]) ∧ At w' b [] seed 2 ∧ w.grownBy w' (some b) := by
      intro w b h
      have k0 : 0 ≤ k ∧ k < m - 1 ∧ (if p ≤ k then k + 1 else k) = q := by
        by_cases h : p < q
        · rw [if_pos h] at hk
          rw [if_pos (by omega)]
          omega
        · rw [if_neg h] at hk
          rw [if_neg (by omega)]
          omega
      have := two_any w b [p, k] seed m p k 0 h (by omega) (by omega) m0 (by omega) (Int.emod_eq_of_lt i0 i1) (Int.emod_eq_of_lt k0.1 k0.2.1)
      rwa [k0.2.2] at this
    have N : ∀ (w : World) (cap : Nat), Bl w2 w → Calls Try.prog 9 #[.int .u64 seed, .slice (some ⟨w2.heap.size, 0, none⟩) 2 cap] (w2.alloc (.cells #[U p, U k] 22)) (NewD [p, k] seed (w2.alloc (.cells #[U p, U k] 22))) := by
      intro w cap hb
      refine new_some _ seed w2.heap.size 0 cap [p, k] l0 u0 ?_ (by simp) (said2 (Bl.rfl' _))
      intro x hx
      by_cases h : p < q
      · rw [if_pos h] at hk
        simp at hx; omega
      · rw [if_neg h] at hk
        simp at hx; omega
    replace T2 := Lib.hid T2; replace N := Lib.hid N
    by_cases hlt : p < q
    · rw [if_pos hlt] at hk
      subst hk
      go_wp2_with fail
      refine (N.out w2 _ (Bl.rfl' _)).mono ?_
      rintro e w3 ⟨c, rfl, hc, hat3, hb3⟩
      have hb4 := Lib.hid ((hb2.out.al (.cells #[U p, U (q - 1)] 22)).tr hb3)
      have hwc : w.heap.size ≤ c := by
        have h1 := hb2.out.size
        simp at hc
        omega
      clear hb3 hc
      go_wp2_with fail
      refine (T2.out _ c hat3.weak).mono ?_
      rintro e w5 ⟨rfl, hat5, hg5⟩
      have hb5 := Lib.hid (hb4.out.gp hg5 hwc)
      clear hat3 hat5 hg5 hwc
      go_wp2_with fail
      refine (lives02 _).mono ?_
      rintro e w6 ⟨rfl, hb6⟩
      go_wp2_with fail
      go_ret
      exact ⟨rfl, hb5.out.tr hb6⟩
    · rw [if_neg hlt] at hk
      subst hk
      go_wp2_with fail
      refine (N.out w2 _ (Bl.rfl' _)).mono ?_
      rintro e w3 ⟨c, rfl, hc, hat3, hb3⟩
      have hb4 := Lib.hid ((hb2.out.al (.cells #[U p, U q] 22)).tr hb3)
      have hwc : w.heap.size ≤ c := by
        have h1 := hb2.out.size
        simp at hc
        omega
      clear hb3 hc
      go_wp2_with fail
      refine (T2.out _ c hat3.weak).mono ?_
      rintro e w5 ⟨rfl, hat5, hg5⟩
      have hb5 := Lib.hid (hb4.out.gp hg5 hwc)
      clear hat3 hat5 hg5 hwc
      go_wp2_with fail
      refine (lives02 _).mono ?_
      rintro e w6 ⟨rfl, hb6⟩
      go_wp2_with fail
      go_ret
      exact ⟨rfl, hb5.out.tr hb6⟩
end Go.Proofs.Ytbmgengcacoiaaa.drawTwo
