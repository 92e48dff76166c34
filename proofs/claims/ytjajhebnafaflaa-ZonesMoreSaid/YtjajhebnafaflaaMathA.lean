/-
  Plain lemmas on whole numbers: quotients cut towards 0 and rounded down.
-/
namespace Go.Proofs.Ytjajhebnafaflaa.M
set_option linter.unusedVariables false

theorem uniq {a b q r : Int} (hb : 0 < b) (e : r + b * q = a) (h0 : 0 ≤ r) (h1 : r < b) : a / b = q ∧ a % b = r :=
  (Int.ediv_emod_unique hb).2 ⟨e, h0, h1⟩

theorem tdiv_facts (a b : Int) (hb : 0 < b) : b * a.tdiv b + a.tmod b = a ∧ -b < a.tmod b ∧ a.tmod b < b := by
  refine ⟨Int.mul_tdiv_add_tmod a b, ?_, Int.tmod_lt_of_pos a hb⟩
  have h := Int.lt_tmod_of_pos a hb
  omega

theorem down_neg (a b : Int) (hb : 0 < b) (h : a.tmod b < 0) : a / b = a.tdiv b - 1 := by
  obtain ⟨e, h1, h2⟩ := tdiv_facts a b hb
  exact (uniq (q := a.tdiv b - 1) (r := a.tmod b + b) hb (by rw [Int.mul_sub]; omega) (by omega) (by omega)).1

theorem down_nn (a b : Int) (hb : 0 < b) (h : 0 ≤ a.tmod b) : a / b = a.tdiv b := by
  obtain ⟨e, h1, h2⟩ := tdiv_facts a b hb
  exact (uniq (q := a.tdiv b) (r := a.tmod b) hb (by omega) (by omega) (by omega)).1

theorem tdiv_range (a b : Int) (hb : 0 < b) (h1 : -9223372036854775808 ≤ a) (h2 : a ≤ 9223372036854775807) : -9223372036854775808 ≤ a.tdiv b ∧ a.tdiv b ≤ 9223372036854775807 ∧ (a.tmod b < 0 → -9223372036854775807 ≤ a.tdiv b) := by
  by_cases hn : 0 ≤ a
  · have e := Int.tdiv_eq_ediv_of_nonneg (b := b) hn
    have := Int.ediv_nonneg hn (Int.le_of_lt hb)
    have := Int.ediv_le_self b hn
    omega
  · have e : a.tdiv b = -((-a) / b) := by
      have : a.tdiv b = -((-a).tdiv b) := by rw [Int.neg_tdiv]; omega
      rw [this, Int.tdiv_eq_ediv_of_nonneg (by omega)]
    have p := Int.ediv_nonneg (show 0 ≤ -a by omega) (Int.le_of_lt hb)
    have q := Int.ediv_le_self b (show 0 ≤ -a by omega)
    refine ⟨by omega, by omega, fun hm => ?_⟩
    obtain ⟨e1, _, _⟩ := tdiv_facts a b hb
    by_cases hb1 : b = 1
    · subst hb1; omega
    · have : (-a) / b < -a := by
        apply Int.ediv_lt_of_lt_mul hb
        have : -a * 2 ≤ -a * b := Int.mul_le_mul_of_nonneg_left (by omega) (by omega)
        omega
      omega

theorem emod_le {a b : Int} (h : 0 ≤ a) (hb : 0 < b) : a % b ≤ a := by
  have := Int.mul_ediv_add_emod a b
  have := Int.mul_nonneg (Int.le_of_lt hb) (Int.ediv_nonneg h (Int.le_of_lt hb))
  omega

theorem tsub (a b : Int) (hb : 0 < b) : (a - a.tmod b).tdiv b = a.tdiv b := by
  obtain ⟨e, h1, h2⟩ := tdiv_facts a b hb
  rw [show a - a.tmod b = a.tdiv b * b by rw [Int.mul_comm]; omega]
  exact Int.mul_tdiv_cancel _ (by omega)

theorem tsub_range (a b : Int) (hb : 0 < b) (h1 : -9223372036854775808 ≤ a) (h2 : a ≤ 9223372036854775807) : -9223372036854775808 ≤ a - a.tmod b ∧ a - a.tmod b ≤ 9223372036854775807 := by
  obtain ⟨e, m1, m2⟩ := tdiv_facts a b hb
  by_cases hn : 0 ≤ a
  · have := Int.tmod_nonneg b hn
    have : a.tmod b ≤ a := by rw [Int.tmod_eq_emod_of_nonneg hn]; exact emod_le hn hb
    omega
  · have p : a.tmod b = -((-a).tmod b) := by rw [Int.neg_tmod]; omega
    have q := Int.tmod_nonneg b (show 0 ≤ -a by omega)
    have r : (-a).tmod b ≤ -a := by rw [Int.tmod_eq_emod_of_nonneg (by omega)]; exact emod_le (by omega) hb
    omega

def up (a b : Int) : Int := -(-a / b)

theorem up_pos (a b : Int) (hb : 0 < b) (h : 0 < a.tmod b) : up a b = a.tdiv b + 1 := by
  obtain ⟨e, h1, h2⟩ := tdiv_facts a b hb
  have := (uniq (a := -a) (q := -(a.tdiv b) - 1) (r := b - a.tmod b) hb (by rw [Int.mul_sub, Int.mul_neg]; omega) (by omega) (by omega)).1
  unfold up; omega

theorem up_np (a b : Int) (hb : 0 < b) (h : a.tmod b ≤ 0) : up a b = a.tdiv b := by
  obtain ⟨e, h1, h2⟩ := tdiv_facts a b hb
  have := (uniq (a := -a) (q := -(a.tdiv b)) (r := - a.tmod b) hb (by rw [Int.mul_neg]; omega) (by omega) (by omega)).1
  unfold up; omega

theorem up_of (a b : Int) (hb : 0 < b) : up a b = if a % b = 0 then a / b else a / b + 1 := by
  have e := Int.mul_ediv_add_emod a b
  have h0 := Int.emod_nonneg a (show b ≠ 0 by omega)
  have h1 := Int.emod_lt_of_pos a hb
  by_cases h : a % b = 0
  · rw [if_pos h]
    have := (uniq (a := -a) (q := -(a / b)) (r := 0) hb (by rw [Int.mul_neg]; omega) (by omega) (by omega)).1
    unfold up; omega
  · rw [if_neg h]
    have := (uniq (a := -a) (q := -(a / b) - 1) (r := b - a % b) hb (by rw [Int.mul_sub, Int.mul_neg]; omega) (by omega) (by omega)).1
    unfold up; omega

theorem down_range (a b : Int) (hb : 0 < b) (h1 : -9223372036854775808 ≤ a) (h2 : a ≤ 9223372036854775807) : -9223372036854775808 ≤ a / b ∧ a / b ≤ 9223372036854775807 := by
  have t := tdiv_range a b hb h1 h2
  by_cases h : a.tmod b < 0
  · rw [down_neg a b hb h]; omega
  · rw [down_nn a b hb (by omega)]; omega

theorem up_range (a b : Int) (hb : 0 < b) (h1 : -9223372036854775808 ≤ a) (h2 : a ≤ 9223372036854775807) : -9223372036854775808 ≤ up a b ∧ up a b ≤ 9223372036854775807 := by
  unfold up
  by_cases h : a = -9223372036854775808
  · have p := Int.ediv_nonneg (show 0 ≤ -a by omega) (Int.le_of_lt hb)
    have q := Int.ediv_le_self b (show 0 ≤ -a by omega)
    omega
  · have := down_range (-a) b hb (by omega) (by omega)
    have p : a < 0 ∨ 0 ≤ a := by omega
    rcases p with p | p
    · have := Int.ediv_nonneg (show 0 ≤ -a by omega) (Int.le_of_lt hb); omega
    · have h3 : -9223372036854775807 ≤ -a / b := by
        rw [Int.le_ediv_iff_mul_le hb]
        have : -9223372036854775807 * b ≤ -9223372036854775807 * 1 := Int.mul_le_mul_of_nonpos_left (by omega) (by omega)
        omega
      omega
end Go.Proofs.Ytjajhebnafaflaa.M
