/-
  The document's IDs of endpoints, rising.
-/
import Derived.Test.YtjajhebnafaflaaZnJ
namespace Go.Proofs.Ytjajhebnafaflaa.zones
open Go.ChangeShapes Go.WideShapes Go.ChangeAt Go.RowKit Go.Shelf
set_option linter.unusedVariables false
set_option linter.unusedSimpArgs false

/-- Those that are here (or elsewhere), and well (or all). -/
def idP (Z : List Int) (z : Int) (h al : Bool) (x : En) : Bool := ((x.z == z) == h) && (al || Z.contains x.i)
def idL (R : List En) (Z : List Int) (z : Int) (h al : Bool) : List Int := srt (evZ (idP Z z h al) R R.length)
/-- The least of those that are not among some. -/
def lstF (p : En → Bool) (R : List En) (O : List Int) : Nat → Int
  | 0 => 4611686018427387904
  | k + 1 => if p (R.getD k e0) && !(decide ((R.getD k e0).i ∈ O)) then min (lstF p R O k) (R.getD k e0).i else lstF p R O k
theorem lst_lo {p : En → Bool} {R : List En} {O : List Int} {b : Int} (hb : b ≤ 4611686018427387904) : ∀ k, k ≤ R.length → (∀ x ∈ R, p x = true → x.i ∉ O → b ≤ x.i) → b ≤ lstF p R O k
  | 0, _, _ => hb
  | k + 1, hk, h => by
    have ih := lst_lo hb k (by omega) h
    rw [lstF]
    split
    · rename_i hc
      rw [Bool.and_eq_true, Bool.not_eq_true', decide_eq_false_iff_not] at hc
      have := h (R.getD k e0) (by rw [List.getD_eq_getElem?_getD, List.getElem?_eq_getElem (by omega)]; exact List.getElem_mem _) hc.1 hc.2
      omega
    · exact ih
theorem lst_hi {p : En → Bool} {R : List En} {O : List Int} : ∀ k, k ≤ R.length → ∀ j, j < k → p (R.getD j e0) = true → (R.getD j e0).i ∉ O → lstF p R O k ≤ (R.getD j e0).i
  | 0, _, j, hj, _, _ => by omega
  | k + 1, hk, j, hj, h1, h2 => by
    rw [lstF]
    by_cases hjk : j = k
    · subst hjk
      rw [if_pos (by rw [h1, decide_eq_false h2]; rfl)]
      omega
    · have ih := lst_hi k (by omega) j (by omega) h1 h2
      split <;> omega
theorem lst_top {p : En → Bool} {R : List En} {O : List Int} : ∀ k, lstF p R O k ≤ 4611686018427387904
  | 0 => Int.le_refl _
  | k + 1 => by
    have ih := lst_top (p := p) (R := R) (O := O) k
    rw [lstF]; split <;> omega
theorem id_lt {R : List En} (hn : (R.map En.i).Nodup) (p : En → Bool) : (srt (evZ p R R.length)).Pairwise (· < ·) := by
  have h1 : (srt (evZ p R R.length)).Pairwise (fun x y => decide (x ≤ y) = true) := List.pairwise_mergeSort (fun a b c h1 h2 => by simp at *; omega) (fun a b => by simp; omega) _
  have h2 : (srt (evZ p R R.length)).Nodup := by
    refine (List.Perm.nodup_iff (List.mergeSort_perm _ _)).2 ?_
    rw [evZ_all]
    exact hn.sublist ((List.filter_sublist).map _)
  refine (h1.and h2).imp ?_
  intro a b ⟨h3, h4⟩
  simp at h3
  omega
theorem lst_is {R : List En} (hn : (R.map En.i).Nodup) (hb : ∀ x ∈ R, x.i < 4611686018427387904) (p : En → Bool) {T : List Int} (hT : srt (evZ p R R.length) = T) (k : Nat) (hk : k ≤ T.length) :
    lstF p R (T.take k) R.length = if k < T.length then T.getD k 0 else 4611686018427387904 := by
  have hlt := id_lt hn p
  have hm : ∀ x, x ∈ T ↔ ∃ e ∈ R, p e = true ∧ e.i = x := fun x => by rw [← hT, srt_mem, evZ_mem]
  rw [hT] at hlt
  have htop := lst_top (p := p) (R := R) (O := T.take k) R.length
  split
  · rename_i hkT
    have hg : T.getD k 0 = T[k] := by rw [List.getD_eq_getElem?_getD, List.getElem?_eq_getElem hkT]; rfl
    rw [hg]
    obtain ⟨e, he, hpe, hie⟩ := (hm T[k]).1 (List.getElem_mem _)
    obtain ⟨j, hj, hje⟩ := List.getElem_of_mem he
    have hgj : R.getD j e0 = e := by rw [List.getD_eq_getElem?_getD, List.getElem?_eq_getElem hj]; exact hje
    have hno : T[k] ∉ T.take k := fun h => by
      obtain ⟨i, hi, hii⟩ := List.getElem_of_mem h
      rw [List.length_take] at hi
      rw [List.getElem_take] at hii
      have := (List.pairwise_iff_getElem.1 hlt) i k (by omega) hkT (by omega)
      omega
    have h1 := lst_hi (p := p) (R := R) (O := T.take k) R.length (Nat.le_refl _) j hj (by rw [hgj]; exact hpe) (by rw [hgj, hie]; exact hno)
    rw [hgj, hie] at h1
    have h2 := lst_lo (p := p) (R := R) (O := T.take k) (b := T[k]) (by have := hb e he; omega) R.length (Nat.le_refl _) (fun x hx hpx hxo => by
      obtain ⟨i, hi, hii⟩ := List.getElem_of_mem ((hm x.i).2 ⟨x, hx, hpx, rfl⟩)
      rcases Nat.lt_or_ge i k with h | h
      · refine absurd ?_ hxo
        rw [← hii]
        exact List.mem_take_iff_getElem.2 ⟨i, by omega, rfl⟩
      · rcases Nat.eq_or_lt_of_le h with h | h
        · subst h; omega
        · have := (List.pairwise_iff_getElem.1 hlt) k i hkT hi h
          omega)
    omega
  · have hkl : k = T.length := by omega
    subst hkl
    rw [List.take_length] at htop ⊢
    have := lst_lo (p := p) (R := R) (O := T) (b := 4611686018427387904) (Int.le_refl _) R.length (Nat.le_refl _) (fun x hx hpx hxo => absurd ((hm x.i).2 ⟨x, hx, hpx, rfl⟩) hxo)
    omega
end Go.Proofs.Ytjajhebnafaflaa.zones
