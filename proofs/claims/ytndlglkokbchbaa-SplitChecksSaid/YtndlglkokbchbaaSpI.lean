/-
  Package split: Each; the example.
-/
import Derived.Test.YtndlglkokbchbaaSpH
import Derived.Test.YtndlglkokbchbaaSpG
namespace Go.Proofs.Ytndlglkokbchbaa.split
open Go.ChangeShapes Go.WideShapes Go.ChangeAt Go.RowKit Go.Shelf
set_option linter.unusedVariables false
set_option linter.unusedSimpArgs false

/-- Is the n-th one of each k-th? -/
def eachF (k n : Int) : Bool := decide (0 < k) && (decide (0 < n) && decide (n % k = 0))
theorem each_any (k n : Int) (w : World) (k1 : -9223372036854775808 ≤ k) (k2 : k ≤ 9223372036854775807) (n1 : -9223372036854775808 ≤ n) (n2 : n ≤ 9223372036854775807) : Calls Try.prog 21 #[I k, I n] w fun e w' => e = .returned (.bool (eachF k n)) ∧ w = w' := by
  unfold eachF
  by_cases hk : 0 < k
  · have e1 : decide (0 < k) = true := decide_eq_true hk
    have e2 : decide (k > 0) = true := decide_eq_true hk
    by_cases hn : 0 < n
    · have e3 : decide (0 < n) = true := decide_eq_true hn
      have e4 : decide (n > 0) = true := decide_eq_true hn
      have ht : n.tmod k = n % k := Int.tmod_eq_emod_of_nonneg (by omega)
      have hkn : ¬ k = 0 := by omega
      have h0 := Int.emod_nonneg n hkn
      have h1 := Int.emod_lt_of_pos n hk
      obtain ⟨m, hm⟩ : ∃ z_, (n % k) = z_ := ⟨_, rfl⟩
      rw [hm] at ht h0 h1
      rw [e1, e3, hm]
      have hw : IntKind.i64.wrap (n.tmod k) = m := by rw [ht, IntKind.wrap_i64]; omega
      by_cases hz : m = 0
      · subst hz
        clear hm hk hn
        replace ht := Lib.hid ht
        go_enter Try.func21, Try.ntmps21
        go_wp2_with fail
        go_ret
        exact ⟨by first | rfl | (simp [ht.out]; done) | (simp [ht.out, hz]; done), rfl⟩
      · have hbe : (m == 0) = false := beq_eq_false_iff_ne.2 hz
        rw [decide_eq_false hz]
        clear hm hk hn
        replace ht := Lib.hid ht
        go_enter Try.func21, Try.ntmps21
        go_wp2_with fail
        go_ret
        exact ⟨by first | rfl | (simp [ht.out]; done) | (simp [ht.out, hz]; done), rfl⟩
    · have e3 : decide (0 < n) = false := decide_eq_false hn
      have e4 : decide (n > 0) = false := decide_eq_false hn
      rw [e1, e3]
      clear hk hn
      go_enter Try.func21, Try.ntmps21
      go_wp2_with fail
      go_ret
      exact ⟨by first | rfl | simp, rfl⟩
  · have e1 : decide (0 < k) = false := decide_eq_false hk
    have e2 : decide (k > 0) = false := decide_eq_false hk
    rw [e1]
    clear hk
    go_enter Try.func21, Try.ntmps21
    go_wp2_with fail
    go_ret
    exact ⟨rfl, rfl⟩

theorem own_parts {w : World} {b : Nat} {v : Value} {R : List Pt} (h : OwnB pB 2 25 w b v R) (hl : R.length ≤ 1000) (hi : ∀ x ∈ R, (-9223372036854775808 ≤ x.s ∧ x.s ≤ 9223372036854775807) ∧ (-9223372036854775808 ≤ x.w ∧ x.w ≤ 9223372036854775807)) : PartsR w v R := by
  obtain ⟨a, g, cap, hv, hg, hc1, hc2, hr⟩ := h.row (by decide)
  refine ⟨a, g, 0, cap, hv, row_z hr, ?_, hc1, hc2, hl, hi⟩
  by_cases h0 : R = []
  · exact Or.inl h0
  · exact Or.inr (hr.lt (List.length_pos_iff.2 h0))
theorem getD_of {R : List Pt} {x : Pt} (hx : x ∈ R) : ∃ i, i < R.length ∧ R.getD i p0 = x := by
  obtain ⟨i, hi, rfl⟩ := List.mem_iff_getElem.1 hx
  exact ⟨i, hi, by rw [List.getD, List.getElem?_eq_getElem hi]; rfl⟩
theorem MadeOk.i64 {R : List Pt} (h : MadeOk R) : ∀ x ∈ R, (-9223372036854775808 ≤ x.s ∧ x.s ≤ 9223372036854775807) ∧ (-9223372036854775808 ≤ x.w ∧ x.w ≤ 9223372036854775807) := by
  intro x hx
  obtain ⟨i, hi, rfl⟩ := getD_of hx
  have h1 := h.srv i hi
  have h2 := h.wgt i hi
  omega
theorem MadeOk.ok {R : List Pt} (h : MadeOk R) : okP R := by
  refine ⟨fun x hx => ?_, by have := h.len; omega⟩
  obtain ⟨i, hi, rfl⟩ := getD_of hx
  have h2 := h.wgt i hi
  omega
theorem MadeOk.ahd_pos {R : List Pt} (h : MadeOk R) : 1 ≤ ahd R R.length := by
  obtain ⟨i, hi, h1⟩ := h.pos
  have h2 := ok_mono h.ok (show i + 1 ≤ R.length by omega)
  have h3 := (h.ok.ahd i).1
  rw [ahd_succ] at h2
  omega
theorem MadeOk.ahd_le {R : List Pt} (h : MadeOk R) : ∀ n, n ≤ R.length → ahd R n ≤ 9 * n
  | 0, _ => by simp [ahd]
  | n + 1, hn => by
    have h1 := MadeOk.ahd_le h n (by omega)
    have h2 := (h.wgt n (by omega)).2
    rw [ahd_succ]
    omega
abbrev RL : List Pt := [⟨1, 3⟩, ⟨2, 1⟩]
set_option maxHeartbeats 4000000 in
theorem lives_any (w : World) : Calls Try.prog 16 #[] w fun e w' => e = .returned (.bool true) ∧ Bl w w' := by
  have hL : OwnB pB 2 25 (w.alloc (.cells #[I 1, I 3, I 2, I 1] 25)) 0 (.slice (some ⟨w.heap.size, 0, none⟩) 2 2) RL := World.ownsRow_lit (base := 0) (e := 25) (size := 2) w #[I 1, I 3, I 2, I 1] 2 (by omega) (by decide) (by simp)
  have hP := own_parts hL (by decide) (by decide)
  have hR : okP RL := ⟨by decide, by decide⟩
  have hb0 := (Bl.rfl' w).al (.cells #[I 1, I 3, I 2, I 1] 25)
  have CK := Lib.hid (fun w' (hb : Bl _ w') => check_any _ _ w' (hP.bl hb))
  have SM := Lib.hid (fun w' (hb : Bl _ w') => sum_any _ _ w' ((hP.bl hb).ok hR))
  have PK := Lib.hid (fun d d0 d1 w' (hb : Bl _ w') => pick_any _ _ d d0 d1 w' ((hP.bl hb).ok hR))
  have E1 := Lib.hid (fun w' => each_any 3 6 w' (by decide) (by decide) (by decide) (by decide))
  have E2 := Lib.hid (fun w' => each_any 3 7 w' (by decide) (by decide) (by decide) (by decide))
  have hq := Bl.rfl' (w.alloc (.cells #[I 1, I 3, I 2, I 1] 25))
  clear hL hP hR
  replace hb0 := Lib.hid hb0
  replace hq := Lib.hid hq
  go_enter Try.func16, Try.ntmps16
  go_wp2_with fail
  with_reducible refine (CK.out _ hq.out).mono ?_
  rintro e w1 ⟨rfl, hb1⟩
  rw [show chkF RL = 0 from by decide]
  replace hq := Lib.hid (hq.out.tr hb1)
  clear hb1
  go_wp2_with fail
  with_reducible refine (SM.out _ hq.out).mono ?_
  rintro e w2 ⟨rfl, hb1⟩
  rw [show ahd RL RL.length = 4 from by decide]
  replace hq := Lib.hid (hq.out.tr hb1)
  clear hb1
  go_wp2_with fail
  with_reducible refine (PK.out 0 (by decide) (by decide) _ hq.out).mono ?_
  rintro e w3 ⟨rfl, hb1⟩
  rw [show pickF RL 0 = 1 from pick_at (R := RL) ⟨by decide, by decide⟩ (k := 0) (by decide) (by decide) (by decide)]
  replace hq := Lib.hid (hq.out.tr hb1)
  clear hb1
  go_wp2_with fail
  with_reducible refine (PK.out 2 (by decide) (by decide) _ hq.out).mono ?_
  rintro e w4 ⟨rfl, hb1⟩
  rw [show pickF RL 2 = 1 from pick_at (R := RL) ⟨by decide, by decide⟩ (k := 0) (by decide) (by decide) (by decide)]
  replace hq := Lib.hid (hq.out.tr hb1)
  clear hb1
  go_wp2_with fail
  with_reducible refine (PK.out 3 (by decide) (by decide) _ hq.out).mono ?_
  rintro e w5 ⟨rfl, hb1⟩
  rw [show pickF RL 3 = 2 from pick_at (R := RL) ⟨by decide, by decide⟩ (k := 1) (by decide) (by decide) (by decide)]
  replace hq := Lib.hid (hq.out.tr hb1)
  clear hb1
  go_wp2_with fail
  with_reducible refine (PK.out 4 (by decide) (by decide) _ hq.out).mono ?_
  rintro e w6 ⟨rfl, hb1⟩
  rw [show pickF RL 4 = 1 from pick_at (R := RL) ⟨by decide, by decide⟩ (k := 0) (by decide) (by decide) (by decide)]
  replace hq := Lib.hid (hq.out.tr hb1)
  clear hb1
  go_wp2_with fail
  with_reducible refine (E1.out _).mono ?_
  rintro e w7 ⟨rfl, rfl⟩
  rw [show eachF 3 6 = true from by decide]
  go_wp2_with fail
  with_reducible refine (E2.out _).mono ?_
  rintro e w8 ⟨rfl, rfl⟩
  rw [show eachF 3 7 = false from by decide]
  go_wp2_with fail
  go_ret
  exact ⟨rfl, hb0.out.tr hq.out⟩
end Go.Proofs.Ytndlglkokbchbaa.split
