/-
  Package zones: what is so of the reckoned answers.
-/
import Derived.Test.YtjajhebnafaflaaZnI
namespace Go.Proofs.Ytjajhebnafaflaa.zones
open Go.ChangeShapes Go.WideShapes Go.ChangeAt Go.RowKit Go.Shelf
set_option linter.unusedVariables false
set_option linter.unusedSimpArgs false

theorem cnt_eq (p : En → Bool) (R : List En) : cntZ p R = ((R.filter p).length : Nat) := by
  unfold cntZ; rw [evZ_all, List.length_map]
theorem cnt_pos {p : En → Bool} {R : List En} : cntZ p R ≠ 0 ↔ ∃ x ∈ R, p x = true := by
  rw [cnt_eq]
  constructor
  · intro h
    obtain ⟨x, hx⟩ : ∃ x, x ∈ R.filter p := List.exists_mem_of_length_pos (by omega)
    rw [List.mem_filter] at hx
    exact ⟨x, hx⟩
  · rintro ⟨x, h1, h2⟩
    have := List.length_pos_of_mem (List.mem_filter.2 ⟨h1, h2⟩)
    omega
theorem cnt_congr {p q : En → Bool} {R : List En} (h : ∀ x ∈ R, p x = q x) : cntZ p R = cntZ q R := by
  rw [cnt_eq, cnt_eq, List.filter_congr h]
theorem cnt_parts (p q : En → Bool) (R : List En) : cntZ p R = cntZ (fun x => q x && p x) R + cntZ (fun x => !(q x) && p x) R := by
  rw [cnt_eq, cnt_eq, cnt_eq]
  induction R with
  | nil => rfl
  | cons x R ih => cases hp : p x <;> cases hq : q x <;> simp_all <;> omega
abbrev farF (z : Int) (Z : List Int) (x : En) : Bool := !(hereF z x) && wellF Z x
theorem well_parts (R : List En) (Z : List Int) (z : Int) : cntZ (wellF Z) R = cntZ (bothF z Z) R + cntZ (farF z Z) R := cnt_parts _ _ _
theorem both_le (R : List En) (Z : List Int) (z : Int) : cntZ (bothF z Z) R ≤ cntZ (hereF z) R := cnt_le R (fun x h => by simp at h ⊢; exact h.1)

/-- The percent that stays, of how many are well here, well elsewhere, here. -/
def homeN (a b c : Int) : Int := if a = 0 then 0 else if b = 0 then 100 else 100 * a / c
theorem home_n (R : List En) (Z : List Int) (z : Int) : homeF R Z z = homeN (cntZ (bothF z Z) R) (cntZ (farF z Z) R) (cntZ (hereF z) R) := by
  unfold homeF homeN
  rw [well_parts R Z z]
  by_cases h : cntZ (bothF z Z) R = 0
  · rw [if_pos h, if_pos h]
  · rw [if_neg h, if_neg h]
    by_cases h2 : cntZ (farF z Z) R = 0
    · rw [if_pos h2, if_pos (by omega)]
    · rw [if_neg h2, if_neg (by omega)]
theorem homeN_bd {a b c : Int} (h0 : 0 ≤ a) (h : a ≤ c) : 0 ≤ homeN a b c ∧ homeN a b c ≤ 100 := by
  unfold homeN
  split
  · omega
  · split
    · omega
    · exact ⟨Int.ediv_nonneg (by omega) (by omega), by
        have := Int.ediv_le_ediv (show 0 < c by omega) (show 100 * a ≤ 100 * c by omega)
        rwa [Int.mul_ediv_cancel _ (show c ≠ 0 by omega)] at this⟩
theorem home_bd (R : List En) (Z : List Int) (z : Int) : 0 ≤ homeF R Z z ∧ homeF R Z z ≤ 100 := by
  rw [home_n]; exact homeN_bd (cnt_bd _ _).1 (both_le R Z z)
theorem homeN_mono {a a' b c : Int} (h0 : 0 ≤ a) (h : a ≤ a') (h' : a' ≤ c) : homeN a b c ≤ homeN a' b c := by
  unfold homeN
  by_cases ha : a = 0
  · rw [if_pos ha]; exact (homeN_bd (b := b) (show 0 ≤ a' by omega) h').1
  · rw [if_neg ha, if_neg (show a' ≠ 0 by omega)]
    split
    · omega
    · exact Int.ediv_le_ediv (by omega) (by omega)

theorem among_here {R : List En} {Z : List Int} {z d : Int} (hd : d < homeF R Z z) (h0 : 0 ≤ d) : cntZ (bothF z Z) R ≠ 0 := by
  intro h
  rw [home_n, homeN, if_pos h] at hd
  omega
theorem among_far {R : List En} {Z : List Int} {z d : Int} (hd : ¬ d < homeF R Z z) (h1 : d < 100) (h : cntZ (wellF Z) R ≠ 0) : cntZ (farF z Z) R ≠ 0 := by
  intro h2
  rw [well_parts R Z z] at h
  rw [home_n, homeN, if_neg (by omega), if_pos h2] at hd
  omega
theorem panicF_no {R : List En} {Z : List Int} {z pc d : Int} (h : panicF R Z pc = false) : amongP R Z z pc d = amongF Z z (decide (d < homeF R Z z)) := by
  unfold amongP; rw [h]; rfl
theorem among_well {R : List En} {Z : List Int} {z pc d x : Int} (h : panicF R Z pc = false) (hx : x ∈ amongL R Z z pc d) : x ∈ Z := by
  obtain ⟨e, he, hp, rfl⟩ := amongL_mem.1 hx
  rw [panicF_no h] at hp
  simp at hp
  exact hp.1
theorem among_lt {R : List En} (h : (R.map En.i).Nodup) (Z : List Int) (z pc d : Int) : (amongL R Z z pc d).Pairwise (· < ·) := by
  have h1 : (amongL R Z z pc d).Pairwise (fun x y => decide (x ≤ y) = true) := List.pairwise_mergeSort (fun a b c h1 h2 => by simp at *; omega) (fun a b => by simp; omega) _
  have h2 : (amongL R Z z pc d).Nodup := by
    refine (List.Perm.nodup_iff (List.mergeSort_perm _ _)).2 ?_
    rw [evZ_all]
    exact h.sublist ((List.filter_sublist).map _)
  refine (h1.and h2).imp ?_
  intro a b ⟨h3, h4⟩
  simp at h3
  omega
def someB (R : List En) (Z : List Int) (k : Nat) : Bool := (R.take k).any (wellF Z)
theorem some_succ (R : List En) (Z : List Int) (k : Nat) (h : k < R.length) : someB R Z (k + 1) = (someB R Z k || wellF Z (R.getD k e0)) := by
  unfold someB
  rw [List.take_succ_eq_append_getElem h, List.any_append, List.getD, List.getElem?_eq_getElem h]
  simp
theorem some_all (R : List En) (Z : List Int) : someB R Z R.length = decide (cntZ (wellF Z) R ≠ 0) := by
  unfold someB
  rw [List.take_length, Bool.eq_iff_iff, List.any_eq_true, decide_eq_true_iff, cnt_pos]
theorem among_some (R : List En) (Z : List Int) (z pc d : Int) (d0 : 0 ≤ d) (d1 : d < 100) :
    decide (0 < ((amongL R Z z pc d).length : Int)) = (someB R Z R.length || (panicF R Z pc && decide (0 < (R.length : Int)))) := by
  have e1 : (amongL R Z z pc d).length = (R.filter (amongP R Z z pc d)).length := by
    unfold amongL; rw [srt_len, evZ_all, List.length_map]
  have e2 : decide (0 < ((amongL R Z z pc d).length : Int)) = decide (cntZ (amongP R Z z pc d) R ≠ 0) := by
    rw [cnt_eq, e1]; exact decide_eq_decide.2 (by omega)
  rw [e2, some_all]
  cases hp : panicF R Z pc with
  | true =>
    have : amongP R Z z pc d = alwaysF := by unfold amongP; rw [hp]; rfl
    rw [this, cnt_eq, cnt_eq, Bool.true_and, show R.filter alwaysF = R from List.filter_eq_self.2 (fun _ _ => rfl)]
    have hl := List.length_filter_le (wellF Z) R
    rw [Bool.eq_iff_iff, Bool.or_eq_true, decide_eq_true_iff, decide_eq_true_iff, decide_eq_true_iff]
    omega
  | false =>
    rw [panicF_no hp, Bool.false_and, Bool.or_false]
    refine decide_eq_decide.2 ⟨fun h => ?_, fun h => ?_⟩
    · obtain ⟨x, h1, h2⟩ := cnt_pos.1 h
      exact cnt_pos.2 ⟨x, h1, by simp at h2 ⊢; exact h2.1⟩
    · by_cases hd : d < homeF R Z z
      · rw [decide_eq_true hd]
        obtain ⟨x, h1, h2⟩ := cnt_pos.1 (among_here hd d0)
        exact cnt_pos.2 ⟨x, h1, by simp at h2 ⊢; exact ⟨h2.2, h2.1⟩⟩
      · rw [decide_eq_false hd]
        obtain ⟨x, h1, h2⟩ := cnt_pos.1 (among_far hd d1 h)
        exact cnt_pos.2 ⟨x, h1, by simp at h2 ⊢; exact ⟨h2.2, h2.1⟩⟩

theorem id_inj {R : List En} (hn : (R.map En.i).Nodup) {j k : Nat} (hj : j < R.length) (hk : k < R.length) (h : (R[j]).i = (R[k]).i) : j = k := by
  rw [List.nodup_iff_pairwise_ne, List.pairwise_iff_getElem] at hn
  rcases Nat.lt_trichotomy j k with hl | hl | hl
  · exact absurd (by rw [List.getElem_map, List.getElem_map]; exact h) (hn j k (by simpa using hj) (by simpa using hk) hl)
  · exact hl
  · exact absurd (by rw [List.getElem_map, List.getElem_map]; exact h.symm) (hn k j (by simpa using hk) (by simpa using hj) hl)
theorem id_same {R : List En} (hn : (R.map En.i).Nodup) {x y : En} (hx : x ∈ R) (hy : y ∈ R) (h : x.i = y.i) : x = y := by
  obtain ⟨j, hj, rfl⟩ := List.getElem_of_mem hx
  obtain ⟨k, hk, rfl⟩ := List.getElem_of_mem hy
  have := id_inj hn hj hk h
  subst this
  rfl
/-- The rounds of the inner loop in which here grows. -/
def incZ (R : List En) (A : List Int) (z : Int) : Nat → Int
  | 0 => 0
  | k + 1 => if 0 < A.length ∧ (R.getD k e0).i = A.getD 0 0 ∧ (R.getD k e0).z = z then incZ R A z k + 1 else incZ R A z k
theorem inc_bd (R : List En) (A : List Int) (z : Int) : ∀ k, 0 ≤ incZ R A z k ∧ incZ R A z k ≤ k
  | 0 => by simp [incZ]
  | k + 1 => by
    have := inc_bd R A z k
    rw [incZ]; split <;> omega
theorem inc_none {R : List En} {A : List Int} {z : Int} : ∀ k, k ≤ R.length → (∀ x ∈ R, x.i = A.getD 0 0 → 0 < A.length → x.z ≠ z) → incZ R A z k = 0
  | 0, _, _ => rfl
  | k + 1, hk, h => by
    rw [incZ, if_neg, inc_none k (by omega) h]
    rintro ⟨h1, h2, h3⟩
    exact h _ (by rw [List.getD_eq_getElem?_getD, List.getElem?_eq_getElem (by omega)]; exact List.getElem_mem _) h2 h1 h3
theorem inc_one {R : List En} {A : List Int} {z : Int} (hn : (R.map En.i).Nodup) (hA : 0 < A.length) (j : Nat) (hj : j < R.length) (hi : (R.getD j e0).i = A.getD 0 0) (hz : (R.getD j e0).z = z) :
    ∀ k, k ≤ R.length → incZ R A z k = if j < k then 1 else 0
  | 0, _ => by simp [incZ]
  | k + 1, hk => by
    have ih := inc_one hn hA j hj hi hz k (by omega)
    rw [incZ, ih]
    by_cases hjk : j = k
    · subst hjk
      rw [if_pos ⟨hA, hi, hz⟩, if_neg (by omega), if_pos (by omega)]; rfl
    · rw [if_neg]
      · by_cases h2 : j < k
        · rw [if_pos h2, if_pos (by omega)]
        · rw [if_neg h2, if_neg (by omega)]
      · rintro ⟨-, h2, -⟩
        rw [← hi] at h2
        refine hjk ?_
        rw [List.getD_eq_getElem?_getD, List.getElem?_eq_getElem (by omega), List.getD_eq_getElem?_getD, List.getElem?_eq_getElem hj] at h2
        exact id_inj hn hj (by omega) h2.symm
theorem head_mem {A : List Int} (h : 0 < A.length) : A.getD 0 0 ∈ A := by
  rw [List.getD_eq_getElem?_getD, List.getElem?_eq_getElem h]; exact List.getElem_mem _
theorem inc_all {R : List En} (hn : (R.map En.i).Nodup) (Z : List Int) (z d : Int) (d0 : 0 ≤ d) (hp : panicF R Z 0 = false) : incZ R (amongL R Z z 0 d) z R.length = if d < homeF R Z z then 1 else 0 := by
  by_cases hd : d < homeF R Z z
  · rw [if_pos hd]
    obtain ⟨x, h1, h2⟩ := cnt_pos.1 (among_here hd d0)
    have hx : x.i ∈ amongL R Z z 0 d := amongL_mem.2 ⟨x, h1, by rw [panicF_no hp, decide_eq_true hd]; simp at h2 ⊢; exact ⟨h2.2, h2.1⟩, rfl⟩
    have hA := List.length_pos_of_mem hx
    obtain ⟨e, he, hpe, hie⟩ := amongL_mem.1 (head_mem hA)
    rw [panicF_no hp, decide_eq_true hd] at hpe
    simp at hpe
    obtain ⟨j, hj, hje⟩ := List.getElem_of_mem he
    have hg : R.getD j e0 = e := by rw [List.getD_eq_getElem?_getD, List.getElem?_eq_getElem hj]; exact hje
    rw [inc_one hn hA j hj (by rw [hg]; exact hie) (by rw [hg]; exact hpe.2) _ (Nat.le_refl _), if_pos hj]
  · rw [if_neg hd]
    refine inc_none _ (Nat.le_refl _) (fun x hx hi hA hz => ?_)
    obtain ⟨e, he, hpe, hie⟩ := amongL_mem.1 (head_mem hA)
    rw [panicF_no hp, decide_eq_false hd] at hpe
    simp at hpe
    have hex : e = x := id_same hn he hx (hie.trans hi.symm)
    subst hex
    exact hpe.2 hz
theorem panic_zero (R : List En) (Z : List Int) : panicF R Z 0 = false := by
  have := (cnt_bd (wellF Z) R).1
  unfold panicF
  exact decide_eq_false (by omega)

theorem in_congr {R : List En} {Z Z' : List Int} (h : ∀ x ∈ R, x.i ∈ Z ↔ x.i ∈ Z') : ∀ x ∈ R, wellF Z x = wellF Z' x := fun x hx => by
  rw [wellF, wellF, Bool.eq_iff_iff, List.contains_iff_mem, List.contains_iff_mem]; exact h x hx
theorem home_congr {R : List En} {Z Z' : List Int} (z : Int) (h : ∀ x ∈ R, x.i ∈ Z ↔ x.i ∈ Z') : homeF R Z z = homeF R Z' z := by
  rw [home_n, home_n, cnt_congr (p := bothF z Z) (q := bothF z Z') (fun x hx => by rw [bothF, bothF, in_congr h x hx]), cnt_congr (p := farF z Z) (q := farF z Z') (fun x hx => by rw [farF, farF, in_congr h x hx])]
theorem home_more {R : List En} (hn : (R.map En.i).Nodup) (Z : List Int) (z : Int) (o : En) (ho : o ∈ R) (hz : o.z = z) : homeF R Z z ≤ homeF R (Z ++ [o.i]) z := by
  have hf : cntZ (farF z (Z ++ [o.i])) R = cntZ (farF z Z) R := cnt_congr fun x hx => by
    rw [farF, farF]
    by_cases h : x.z = z
    · have : hereF z x = true := by rw [hereF]; simpa using h
      rw [this]; rfl
    · have : x.i ≠ o.i := fun e => h (by rw [id_same hn hx ho e]; exact hz)
      have e2 : wellF (Z ++ [o.i]) x = wellF Z x := by
        rw [wellF, wellF, Bool.eq_iff_iff, List.contains_iff_mem, List.contains_iff_mem, List.mem_append, List.mem_singleton]
        exact ⟨fun h => h.resolve_right this, Or.inl⟩
      rw [e2]
  rw [home_n, home_n, hf]
  exact homeN_mono (cnt_bd _ _).1 (cnt_le R (fun x h => by
    simp only [bothF, wellF, Bool.and_eq_true, List.contains_iff_mem, List.mem_append] at h ⊢
    exact ⟨h.1, Or.inl h.2⟩)) (both_le R _ z)
theorem panic_more (R : List En) (Z : List Int) (pc i : Int) (h : panicF R (Z ++ [i]) pc = true) : panicF R Z pc = true := by
  unfold panicF at *
  rw [decide_eq_true_iff] at *
  have := cnt_le (p := wellF Z) (q := wellF (Z ++ [i])) R (fun x h => by
    simp only [wellF, List.contains_iff_mem, List.mem_append] at h ⊢
    exact Or.inl h)
  omega

theorem cnt_rev (p : En → Bool) (R : List En) : cntZ p R.reverse = cntZ p R := by
  rw [cnt_eq, cnt_eq, List.filter_reverse, List.length_reverse]
theorem home_rev (R : List En) (Z : List Int) (z : Int) : homeF R.reverse (Z.reverse ++ Z) z = homeF R Z z := by
  rw [home_congr (Z := Z.reverse ++ Z) (Z' := Z) z (fun x _ => by simp), home_n, home_n, cnt_rev, cnt_rev, cnt_rev]
theorem panic_rev (R : List En) (Z : List Int) (pc : Int) : panicF R.reverse (Z.reverse ++ Z) pc = panicF R Z pc := by
  unfold panicF
  rw [cnt_rev, List.length_reverse, cnt_congr (p := wellF (Z.reverse ++ Z)) (q := wellF Z) (in_congr fun x _ => by simp)]
theorem srt_perm {x y : List Int} (h : x.Perm y) : srt x = srt y := by
  have p1 : (srt x).Pairwise (fun a b => decide (a ≤ b) = true) := List.pairwise_mergeSort (fun a b c h1 h2 => by simp at *; omega) (fun a b => by simp; omega) _
  have p2 : (srt y).Pairwise (fun a b => decide (a ≤ b) = true) := List.pairwise_mergeSort (fun a b c h1 h2 => by simp at *; omega) (fun a b => by simp; omega) _
  refine List.Perm.eq_of_pairwise (le := fun a b => decide (a ≤ b) = true) (fun a b _ _ h1 h2 => by simp at h1 h2; omega) p1 p2 ?_
  exact ((List.mergeSort_perm _ _).trans h).trans (List.mergeSort_perm _ _).symm
theorem among_rev (R : List En) (Z : List Int) (z pc d : Int) : amongL R.reverse (Z.reverse ++ Z) z pc d = amongL R Z z pc d := by
  unfold amongL
  have e : ∀ x, amongP R.reverse (Z.reverse ++ Z) z pc d x = amongP R Z z pc d x := fun x => by
    unfold amongP
    rw [panic_rev, home_rev]
    split
    · rfl
    · have : wellF (Z.reverse ++ Z) x = wellF Z x := by
        rw [wellF, wellF, Bool.eq_iff_iff, List.contains_iff_mem, List.contains_iff_mem]; simp
      rw [amongF, amongF, this]
  refine srt_perm ?_
  rw [evZ_all, evZ_all, show amongP R.reverse (Z.reverse ++ Z) z pc d = amongP R Z z pc d from funext e, List.filter_reverse, List.map_reverse]
  exact List.reverse_perm _
end Go.Proofs.Ytjajhebnafaflaa.zones
