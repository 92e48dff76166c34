/-
  Package rewrite: paths made of numbers, walked.
-/
import Derived.Test.YtnmehmlenbbfbaaRwB
import Derived.Test.YtnmehmlenbbfbaaMaD
namespace Go.Proofs.Ytnmehmlenbbfbaa.mat
open Go.ChangeShapes Go.WideShapes Go.ChangeAt Go.RowKit
open Go.Proofs.Ytnmehmlenbbfbaa.heads
set_option linter.unusedVariables false
set_option linter.unusedSimpArgs false

theorem eq_no (s : ByteArray) : (s.toList == []) = decide (s = ⟨#[]⟩) := by
  have h := txt_eq s ⟨#[]⟩
  rw [show (ByteArray.toList ⟨#[]⟩) = [] by rw [ByteArray.toList_eq]] at h
  exact h
theorem ofL_step (f i k : Nat) (s : ByteArray) (h : i < k % 4) : ofL (f + 1) i k s = ofL f (i + 1) (k / 4 / 6 + 5 * i) ((s ++ sl) ++ prT (k / 4 % 6)) := by rw [ofL, if_pos h]
theorem ofL_stop (f i k : Nat) (s : ByteArray) (h : ¬ i < k % 4) : ofL f i k s = (k, s) := by
  cases f with
  | zero => rfl
  | succ f => rw [ofL, if_neg h]
set_option maxRecDepth 20000 in
set_option maxHeartbeats 4000000 in
theorem of_any (n : Int) (w : World) (h1 : -9223372036854775808 ≤ n) (h2 : n ≤ 9223372036854775807) :
    Calls Try.prog 11 #[I n] w fun e w' => e = .returned (S (ofF n)) ∧ Bl w w' := by
  have A1 := around_any n 1000000 w h1 h2 (by omega) (by omega)
  have f0 := around_lo n 1000000 (by omega)
  have f1 := around_hi n 1000000 (by omega)
  have hof : ofF n = ofN (around n 1000000).toNat := rfl
  obtain ⟨k0, hk0⟩ : ∃ k : Nat, around n 1000000 = k := ⟨(around n 1000000).toNat, by omega⟩
  rw [hk0] at A1 f1 hof
  rw [hof, Int.toNat_natCast]
  have hlong : ∀ w, (ofL 4 0 k0 ⟨#[]⟩).2.size ≤ 16 → Sem.run Try.prog (Op.stringOp .add (ofL 4 0 k0 ⟨#[]⟩).2 longP) w = .ok (.string ((ofL 4 0 k0 ⟨#[]⟩).2 ++ longP)) w := fun w h => run_string_add_sum (P := Try.prog) w _ longP (by show _ + 38 ≤ _; omega)
  have hsz := (ofL_ok 4 0 k0 ⟨#[]⟩ (Or.inl rfl)).2
  have hon : ofN k0 = if (if (ofL 4 0 k0 ⟨#[]⟩).1 % 29 = 3 then (ofL 4 0 k0 ⟨#[]⟩).2 ++ longP else (ofL 4 0 k0 ⟨#[]⟩).2) = ⟨#[]⟩ then sl else (if (ofL 4 0 k0 ⟨#[]⟩).1 % 29 = 3 then (ofL 4 0 k0 ⟨#[]⟩).2 ++ longP else (ofL 4 0 k0 ⟨#[]⟩).2) := rfl
  obtain ⟨R, hR⟩ : ∃ X, ofL 4 0 k0 ⟨#[]⟩ = X := ⟨_, rfl⟩
  rw [hR] at hon hsz
  simp only [hR] at hlong
  obtain ⟨RR, hRR⟩ : ∃ X, ofN k0 = X := ⟨_, rfl⟩
  rw [hRR] at hon ⊢
  obtain ⟨x0, hx0⟩ : ∃ x : Int, (k0 : Int) = x := ⟨_, rfl⟩
  rw [hx0] at A1
  have hx1 : 0 ≤ x0 ∧ x0 ≤ 1000000 ∧ x0.toNat = k0 := by omega
  clear hof hk0 f0 f1 hRR
  have hs16 : R.2.size ≤ 16 := by have : (⟨#[]⟩ : ByteArray).size = 0 := rfl; omega
  have hlg := fun w => hlong w hs16
  clear hlong hsz hx0 hs16
  replace A1 := Lib.hid A1
  replace hR := Lib.hid hR
  replace hon := Lib.hid hon
  replace hlg := Lib.hid hlg
  replace hx1 := Lib.hid hx1
  go_enter Try.func11, Try.ntmps11
  go_wp2_with fail
  with_reducible refine (A1.out).mono ?_
  rintro e w' ⟨rfl, rfl⟩
  go_wp2_with fail
  go_loopw [3, 4, 5] (fun kv sv iv wr => ∃ (x : Int) (i f : Nat) (s : ByteArray), kv = I x ∧ sv = S s ∧ iv = I i ∧ i + f = 4 ∧ 0 ≤ x ∧ x ≤ 1000000 ∧ s.size ≤ 4 * i ∧ ofL f i x.toNat s = R ∧ Bl w wr) (fun _ _ iv _ => 4 - (intOf iv).toNat)
  case atStart => exact ⟨x0, 0, 4, ⟨#[]⟩, rfl, rfl, rfl, rfl, hx1.out.1, hx1.out.2.1, by show 0 ≤ _; omega, by rw [hx1.out.2.2]; exact hR.out, Bl.rfl' _⟩
  case round =>
    obtain ⟨x, i, f, s, rfl, rfl, rfl, hif, hx0, hx1', hsz, hp, hbr⟩ := hrel
    have t1 : x.tmod 4 = x % 4 := Int.tmod_eq_emod_of_nonneg hx0
    obtain ⟨m4, hm4⟩ : ∃ m, x % 4 = m := ⟨_, rfl⟩
    rw [hm4] at t1
    have m0 : 0 ≤ m4 := by omega
    have m3 : m4 ≤ 3 := by omega
    clear A1 hR hx1
    by_cases hlt : (i : Int) < m4
    · have d1 : decide ((i : Int) < m4) = true := decide_eq_true hlt
      obtain ⟨f', rfl⟩ : ∃ f', f = f' + 1 := ⟨f - 1, by omega⟩
      have hst := ofL_step f' i x.toNat s (by omega)
      rw [hp] at hst
      have t2 : x.tdiv 4 = x / 4 := Int.tdiv_eq_ediv_of_nonneg hx0
      rw [show x.toNat / 4 = (x / 4).toNat by omega, show (x / 4).toNat % 6 = (x / 4 % 6).toNat by omega, show (x / 4).toNat / 6 + 5 * i = (x / 4 / 6 + 5 * (i : Int)).toNat by omega] at hst
      have hy0 : 0 ≤ x / 4 := by omega
      have hy1 : x / 4 ≤ 1000000 := by omega
      obtain ⟨y, hy⟩ : ∃ y, x / 4 = y := ⟨_, rfl⟩
      rw [hy] at hst t2 hy0 hy1
      have t3 : y.tmod 6 = y % 6 := Int.tmod_eq_emod_of_nonneg hy0
      have t4 : y.tdiv 6 = y / 6 := Int.tdiv_eq_ediv_of_nonneg hy0
      have hz0 : 0 ≤ y / 6 := by omega
      have hz1 : y / 6 ≤ 250000 := by omega
      obtain ⟨z, hz⟩ : ∃ z, y / 6 = z := ⟨_, rfl⟩
      rw [hz] at hst t4 hz0 hz1
      have hi3 : i ≤ 3 := by omega
      have w5 : wrap64 (5 * (i : Int)) = 5 * (i : Int) := by unfold wrap64; omega
      have wu : wrap64 (z + 5 * (i : Int)) = z + 5 * (i : Int) := by unfold wrap64; omega
      have wi : IntKind.i64.wrap ((i : Int) + 1) = ((i + 1 : Nat) : Int) := by rw [IntKind.wrap_i64]; omega
      have hj6 : (y % 6).toNat < 6 := by omega
      have hpr := (pr_ok _ hj6).1
      have ad1 := fun w => run_string_add_sum (P := Try.prog) w s sl (by show s.size + 1 ≤ _; omega)
      have hss : (s ++ sl).size = s.size + 1 := by rw [ByteArray.size_append]; rfl
      have ad2 := fun w => run_string_add_sum (P := Try.prog) w (s ++ sl) (prT (y % 6).toNat) (by omega)
      have hs2 : ((s ++ sl) ++ prT (y % 6).toNat).size ≤ 4 * (i + 1) := by rw [ByteArray.size_append]; omega
      have hP := heap_alloc_new wr oPr
      have hb2 := hbr.al oPr
      have cj := cellPr hP _ hj6
      obtain ⟨pc, hpc⟩ : ∃ z, prT (y % 6).toNat = z := ⟨_, rfl⟩
      rw [hpc] at hst hs2 cj
      simp only [hpc] at ad2
      obtain ⟨s1, hs1⟩ : ∃ X, s ++ sl = X := ⟨_, rfl⟩
      rw [hs1] at hs2 hst
      simp only [hs1] at ad1 ad2
      obtain ⟨s2, hs22⟩ : ∃ X, s1 ++ pc = X := ⟨_, rfl⟩
      rw [hs22] at hs2 hst
      simp only [hs22] at ad2
      have hzu : 0 ≤ z + 5 * (i : Int) ∧ z + 5 * (i : Int) ≤ 1000000 := by omega
      clear hp hP hs1 hs22 hy hz hpc hx0 hx1' hsz hj6 hpr hss hm4 hlt hon hlg
      replace hbr := Lib.hid hbr
      replace hb2 := Lib.hid hb2
      replace hst := Lib.hid hst
      replace hs2 := Lib.hid hs2
      replace hif := Lib.hid hif
      replace hzu := Lib.hid hzu
      go_wp2_with fail
      go_roundw
      case rel => exact ⟨z + 5 * (i : Int), i + 1, f', s2, by first | rfl | go_num, rfl, by first | rfl | go_num, by have := hif.out; omega, hzu.out.1, hzu.out.2, hs2.out, hst.out.symm, hb2.out⟩
      case measure => (have := hif.out); simp [intOf] <;> omega
    · have d1 : decide ((i : Int) < m4) = false := decide_eq_false hlt
      have hst := ofL_stop f i x.toNat s (by omega)
      rw [hp] at hst
      subst hst
      have hy := hon.out
      simp only at hy
      have lg := hlg.out
      simp only at lg
      have he1 := eq_no s
      have he2 := eq_no (s ++ longP)
      have t5 : x.tmod 29 = x % 29 := Int.tmod_eq_emod_of_nonneg hx0
      clear hp hlt hon hlg hm4
      by_cases h29 : x % 29 = 3
      · have e1 : ((x % 29) == 3) = true := beq_iff_eq.2 h29
        rw [if_pos (show x.toNat % 29 = 3 by omega)] at hy
        obtain ⟨t, ht⟩ : ∃ X, s ++ longP = X := ⟨_, rfl⟩
        rw [ht] at hy he2
        simp only [ht] at lg
        clear ht he1 h29
        by_cases h0 : t = ⟨#[]⟩
        · rw [if_pos h0] at hy
          rw [decide_eq_true h0] at he2
          clear h0
          replace hy := Lib.hid hy
          replace hbr := Lib.hid hbr
          go_wp2_with fail
          go_ret
          exact ⟨by rw [hy.out]; rfl, hbr.out⟩
        · rw [if_neg h0] at hy
          rw [decide_eq_false h0] at he2
          clear h0
          replace hy := Lib.hid hy
          replace hbr := Lib.hid hbr
          go_wp2_with fail
          go_ret
          exact ⟨by rw [hy.out]; rfl, hbr.out⟩
      · have e1 : ((x % 29) == 3) = false := beq_eq_false_iff_ne.2 h29
        rw [if_neg (show ¬ x.toNat % 29 = 3 by omega)] at hy
        clear he2 h29 lg
        by_cases h0 : s = ⟨#[]⟩
        · rw [if_pos h0] at hy
          rw [decide_eq_true h0] at he1
          clear h0
          replace hy := Lib.hid hy
          replace hbr := Lib.hid hbr
          go_wp2_with fail
          go_ret
          exact ⟨by rw [hy.out]; rfl, hbr.out⟩
        · rw [if_neg h0] at hy
          rw [decide_eq_false h0] at he1
          clear h0
          replace hy := Lib.hid hy
          replace hbr := Lib.hid hbr
          go_wp2_with fail
          go_ret
          exact ⟨by rw [hy.out]; rfl, hbr.out⟩
end Go.Proofs.Ytnmehmlenbbfbaa.mat
