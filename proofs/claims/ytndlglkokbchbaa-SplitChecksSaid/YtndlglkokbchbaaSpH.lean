/-
  Package split: the document's Sum, Pick, Check.
-/
import Derived.Test.YtndlglkokbchbaaSpF
namespace Go.Proofs.Ytndlglkokbchbaa.split
open Go.ChangeShapes Go.WideShapes Go.ChangeAt Go.RowKit Go.Shelf
set_option linter.unusedVariables false
set_option linter.unusedSimpArgs false

theorem ahd_succ (R : List Pt) (k : Nat) : ahd R (k + 1) = ahd R k + (R.getD k p0).w := rfl
theorem ok_mono {R : List Pt} (h : okP R) {k n : Nat} (hk : k ≤ n) : ahd R k ≤ ahd R n := by
  induction n with
  | zero => obtain rfl : k = 0 := by omega
            exact Int.le_refl _
  | succ n ih =>
    by_cases hh : k = n + 1
    · subst hh; exact Int.le_refl _
    · have h1 := ih (by omega)
      have h2 := h.at n
      simp only [ahd]
      omega
theorem ok_wrap {R : List Pt} (h : okP R) {k : Nat} (hk : k < R.length) : wrap64 (ahd R k + (R.getD k p0).w) = ahd R (k + 1) := by
  have h1 := h.ahd k
  have h2 := h.at k
  have h3 := h.2
  simp only [ahd]
  unfold wrap64
  omega
theorem hit_low {R : List Pt} (h : okP R) {rest : Int} : ∀ {n : Nat}, n ≤ R.length → ahd R n ≤ rest → hitF rest (evP R n) = none := by
  intro n
  induction n with
  | zero => intro _ _; rfl
  | succ n ih =>
    intro hn hr
    have h1 := ok_mono h (show n ≤ n + 1 by omega)
    refine hit_none (x := (ahd R n, R.getD n p0)) (ih (by omega) (by omega)) ?_
    show ¬ rest < wrap64 (ahd R n + (R.getD n p0).w)
    rw [ok_wrap h (by omega)]
    omega
theorem hit_at {R : List Pt} (h : okP R) {rest : Int} {k : Nat} (hk : k < R.length) (h1 : ahd R k ≤ rest) (h2 : rest < ahd R (k + 1)) : hitF rest (evP R R.length) = some (ahd R k, R.getD k p0) := by
  refine hit_pre (hit_some (x := (ahd R k, R.getD k p0)) (hit_low h (by omega) h1) ?_) (evP_pre R (show k + 1 ≤ R.length by omega))
  show rest < wrap64 (ahd R k + (R.getD k p0).w)
  rw [ok_wrap h hk]
  exact h2
theorem pick_at {R : List Pt} (h : okP R) {d : Int} {k : Nat} (hk : k < R.length) (h1 : ahd R k ≤ d % ahd R R.length) (h2 : d % ahd R R.length < ahd R (k + 1)) : pickF R d = (R.getD k p0).s := by
  unfold pickF
  have h3 := ok_mono h (show k + 1 ≤ R.length by omega)
  have h4 := h.ahd k
  have h5 : 0 ≤ d % ahd R R.length := by omega
  rw [if_neg (by omega), hit_at h hk h1 h2]
  rfl
theorem at_ex {R : List Pt} (h : okP R) {rest : Int} (r0 : 0 ≤ rest) : ∀ {n : Nat}, rest < ahd R n → ∃ k, k < n ∧ ahd R k ≤ rest ∧ rest < ahd R (k + 1) := by
  intro n
  induction n with
  | zero => intro hr; simp only [ahd] at hr; omega
  | succ n ih =>
    intro hr
    by_cases hl : rest < ahd R n
    · obtain ⟨k, h1, h2⟩ := ih hl
      exact ⟨k, by omega, h2⟩
    · exact ⟨n, by omega, by omega, hr⟩

set_option maxHeartbeats 4000000 in
theorem rsum_any (v : Value) (R : List Pt) (w : World) (hv : PartsAt w v R) : Calls Try.prog 13 #[v] w fun e w' => e = .returned (I (ahd R R.length)) ∧ w = w' := by
  obtain ⟨a, g, o, cap, rfl, hr, hg, hR⟩ := hv
  have RC := Lib.hid (fun i hi => hr.c i hi)
  have hl := hR.2
  have hA := Lib.hid (fun k => hR.ahd k)
  have hS := Lib.hid (fun k => ahd_succ R k)
  have hW := Lib.hid (fun k => hR.at k)
  clear hr hR hg
  go_enter Try.func13, Try.ntmps13
  go_wp2_with fail
  go_loopw [3, 4] (fun n i wr => ∃ k : Nat, k ≤ R.length ∧ i = I k ∧ n = I (ahd R k) ∧ w = wr) (fun _ i _ => R.length - (intOf i).toNat)
  case atStart => exact ⟨0, by omega, rfl, rfl, rfl⟩
  case round =>
    obtain ⟨k, hk, rfl, rfl, rfl⟩ := hrel
    by_cases hlt : k < R.length
    · obtain ⟨ha, hcc⟩ := RC.out k hlt
      subst ha
      have c1 := hcc 1 (by decide)
      simp only [List.getElem?_cons_succ, List.getElem?_cons_zero, Nat.add_zero, ← Nat.add_assoc] at c1
      have hs := hS.out k
      have hw := hW.out k
      have ha := hA.out k
      obtain ⟨x, hx⟩ : ∃ z_, (R.getD k p0) = z_ := ⟨_, rfl⟩
      rw [hx] at c1 hs hw
      obtain ⟨xs, xw⟩ := x
      simp only at hs hw
      have wt : IntKind.i64.wrap ((k : Int) + 1) = ((k + 1 : Nat) : Int) := by rw [IntKind.wrap_i64]; omega
      have ww : IntKind.i64.wrap (ahd R k + xw) = ahd R k + xw := by rw [IntKind.wrap_i64]; omega
      clear hcc hx
      replace hs := Lib.hid hs
      go_wp2_with fail
      go_roundw
      case rel => exact ⟨k + 1, by omega, by first | rfl | go_num, by rw [hs.out], trivial⟩
      case measure => simp [intOf] <;> omega
    · obtain rfl : k = R.length := by omega
      go_wp2_with fail
      go_ret
      exact ⟨rfl, rfl⟩

set_option maxHeartbeats 4000000 in
theorem rpick_any (v : Value) (R : List Pt) (d : Int) (d0 : 0 ≤ d) (d1 : d ≤ 18446744073709551615) (w : World) (hv : PartsAt w v R) (hpos : 1 ≤ ahd R R.length) : Calls Try.prog 18 #[v, .int .u64 d] w fun e w' => e = .returned (I (pickF R d)) ∧ w = w' := by
  have SM := Lib.hid (rsum_any v R w hv)
  obtain ⟨a, g, o, cap, rfl, hr, hg, hR⟩ := hv
  have RC := Lib.hid (fun i hi => hr.c i hi)
  have hl := hR.2
  have hA := Lib.hid (fun k => hR.ahd k)
  have hS := Lib.hid (fun k => ahd_succ R k)
  have hW := Lib.hid (fun k => hR.at k)
  have hP := fun k hk h1 h2 => pick_at hR (d := d) (k := k) hk h1 h2
  obtain ⟨P, hPe⟩ : ∃ z_, (pickF R d) = z_ := ⟨_, rfl⟩
  simp only [hPe] at hP
  rw [hPe]
  have hsum := hR.ahd R.length
  obtain ⟨m, hm⟩ : ∃ z, ahd R R.length = z := ⟨_, rfl⟩
  rw [hm] at SM hpos hsum
  simp only [hm] at hP
  have hm0 : IntKind.u64.wrap m = m := by rw [IntKind.wrap_u64]; omega
  have hmn : ¬ m = 0 := by omega
  have ht : d.tmod m = d % m := Int.tmod_eq_emod_of_nonneg d0
  have hr0 := Int.emod_nonneg d hmn
  have hr1 := Int.emod_lt_of_pos d (show 0 < m by omega)
  obtain ⟨rest, hrest⟩ : ∃ z, d % m = z := ⟨_, rfl⟩
  rw [hrest] at ht hr0 hr1
  simp only [hrest] at hP
  have hw1 : IntKind.u64.wrap (d.tmod m) = rest := by rw [ht, IntKind.wrap_u64]; omega
  have hw2 : IntKind.i64.wrap rest = rest := by rw [IntKind.wrap_i64]; omega
  have hd : decide (m < 1) = false := decide_eq_false (by omega)
  clear hr hR hg hPe hrest
  replace hP := Lib.hid hP
  replace hm := Lib.hid hm
  go_enter Try.func18, Try.ntmps18
  go_wp2_with fail
  with_reducible refine (SM.out).mono ?_
  rintro e w' ⟨rfl, rfl⟩
  clear SM
  go_wp2_with fail
  clear hm0 ht hw1 hw2 hd
  go_loopw [6, 7] (fun r i wr => ∃ k : Nat, k ≤ R.length ∧ i = I k ∧ r = I (rest - ahd R k) ∧ ahd R k ≤ rest ∧ w = wr) (fun _ i _ => R.length - (intOf i).toNat)
  case atStart => exact ⟨0, by omega, rfl, by simp [ahd], by simpa [ahd] using hr0, rfl⟩
  case round =>
    obtain ⟨k, hk, rfl, rfl, hkr, rfl⟩ := hrel
    by_cases hlt : k < R.length
    · obtain ⟨ha, hcc⟩ := RC.out k hlt
      subst ha
      have c0 := hcc 0 (by decide)
      have c1 := hcc 1 (by decide)
      simp only [List.getElem?_cons_succ, List.getElem?_cons_zero, Nat.add_zero, ← Nat.add_assoc] at c0 c1
      have hs := hS.out k
      have hw := hW.out k
      have ha := hA.out k
      have hPk := hP.out k hlt hkr
      obtain ⟨x, hx⟩ : ∃ z_, (R.getD k p0) = z_ := ⟨_, rfl⟩
      rw [hx] at c0 c1 hs hw hPk
      obtain ⟨xs, xw⟩ := x
      simp only at hs hw hPk
      have wt : IntKind.i64.wrap ((k : Int) + 1) = ((k + 1 : Nat) : Int) := by rw [IntKind.wrap_i64]; omega
      have ww : IntKind.i64.wrap (rest - ahd R k - xw) = rest - ahd R k - xw := by rw [IntKind.wrap_i64]; omega
      clear hcc hx
      by_cases hh : rest - ahd R k < xw
      · have d1 : decide (rest - ahd R k < xw) = true := decide_eq_true hh
        have hf := hPk (by omega)
        subst hf
        clear hPk
        replace hs := Lib.hid hs
        go_wp2_with fail
        go_ret
        exact ⟨rfl, rfl⟩
      · have d1 : decide (rest - ahd R k < xw) = false := decide_eq_false hh
        clear hPk
        replace hs := Lib.hid hs
        go_wp2_with fail
        go_roundw
        case rel => exact ⟨k + 1, by omega, by first | rfl | go_num, by rw [hs.out, Int.sub_sub], by rw [hs.out]; omega, trivial⟩
        case measure => simp [intOf] <;> omega
    · obtain rfl : k = R.length := by omega
      exact absurd hm.out (by omega)
end Go.Proofs.Ytndlglkokbchbaa.split
