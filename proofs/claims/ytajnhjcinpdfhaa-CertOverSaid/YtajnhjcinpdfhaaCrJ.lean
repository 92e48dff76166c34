/-
  Package cert: which roots are trusted, now and later.
-/
import Derived.Test.YtajnhjcinpdfhaaCrI
namespace Go.Proofs.Ytajnhjcinpdfhaa.cert
open Go.ChangeShapes Go.WideShapes Go.ChangeAt Go.RowKit
set_option linter.unusedVariables false
set_option linter.unusedSimpArgs false

theorem rootsTo_le (U : List Int) (now : Int) : ∀ k, ∀ v ∈ rootsTo U now k, 1 ≤ v ∧ v ≤ k
  | 0, v, hv => by simp [rootsTo] at hv
  | k + 1, v, hv => by
    unfold rootsTo at hv
    split at hv
    · rcases List.mem_append.1 hv with h | h
      · have := rootsTo_le U now k v h; omega
      · simp only [List.mem_singleton] at h; omega
    · have := rootsTo_le U now k v hv; omega
theorem rootsTo_rise (U : List Int) (now : Int) : ∀ k, (rootsTo U now k).Pairwise (· < ·)
  | 0 => by simp [rootsTo]
  | k + 1 => by
    unfold rootsTo
    split
    · rw [List.pairwise_append]
      refine ⟨rootsTo_rise U now k, by simp, fun a ha b hb => ?_⟩
      have := rootsTo_le U now k a ha
      simp only [List.mem_singleton] at hb; omega
    · exact rootsTo_rise U now k
theorem rootsTo_lt (U : List Int) (now : Int) (k i : Nat) (h0 : 0 < i) (hi : i < (rootsTo U now k).length) : (rootsTo U now k).getD (i - 1) 0 < (rootsTo U now k).getD i 0 := by
  have hp := List.pairwise_iff_getElem.1 (rootsTo_rise U now k) (i - 1) i (by omega) hi (by omega)
  rw [List.getD_eq_getElem?_getD, List.getD_eq_getElem?_getD, List.getElem?_eq_getElem (by omega), List.getElem?_eq_getElem hi]
  exact hp
theorem tr_newest (U : List Int) (now : Int) : trB U ((U.length : Int) + 1) now = true := by unfold trB; simp
theorem rootsTo_last (U : List Int) (now : Int) : 0 < (rootsTo U now (U.length + 1)).length ∧ (rootsTo U now (U.length + 1)).getD ((rootsTo U now (U.length + 1)).length - 1) 0 = (U.length : Int) + 1 := by
  unfold rootsTo
  rw [if_pos (tr_newest U now), List.length_append]
  refine ⟨by simp, ?_⟩
  rw [show (rootsTo U now U.length).length + [(U.length : Int) + 1].length - 1 = (rootsTo U now U.length).length by simp]
  exact getD_app_r _ _ _
theorem mem_rootsTo (U : List Int) (now : Int) (v : Int) : ∀ k, v ∈ rootsTo U now k ↔ (1 ≤ v ∧ v ≤ k) ∧ trB U v now = true
  | 0 => by simp [rootsTo]; omega
  | k + 1 => by
    have ih := mem_rootsTo U now v k
    unfold rootsTo
    split
    · rename_i h
      rw [List.mem_append, List.mem_singleton, ih]
      constructor
      · rintro (⟨h1, h2⟩ | rfl)
        · exact ⟨by omega, h2⟩
        · exact ⟨by omega, h⟩
      · rintro ⟨h1, h2⟩
        by_cases he : v = (k : Int) + 1
        · exact Or.inr he
        · exact Or.inl ⟨by omega, h2⟩
    · rename_i h
      rw [ih]
      constructor
      · rintro ⟨h1, h2⟩; exact ⟨by omega, h2⟩
      · rintro ⟨h1, h2⟩
        refine ⟨?_, h2⟩
        by_cases he : v = (k : Int) + 1
        · subst he; exact absurd h2 h
        · omega
theorem tr_later {U : List Int} {v x y : Int} (h : x ≤ y) (ht : trB U v y = true) : trB U v x = true := by
  unfold trB at ht ⊢
  simp only [Bool.or_eq_true, Bool.and_eq_true, decide_eq_true_eq] at ht ⊢
  rcases ht with h1 | ⟨h1, h2⟩
  · exact Or.inl h1
  · exact Or.inr ⟨h1, by omega⟩
theorem rootsTo_sub {U : List Int} {x y : Int} (h : x ≤ y) : ∀ k, (rootsTo U y k).Sublist (rootsTo U x k)
  | 0 => List.Sublist.refl _
  | k + 1 => by
    have ih := rootsTo_sub (U := U) h k
    unfold rootsTo
    by_cases hy : trB U ((k : Int) + 1) y = true
    · rw [if_pos hy, if_pos (tr_later h hy)]
      exact List.Sublist.append ih (List.Sublist.refl _)
    · rw [if_neg hy]
      split
      · exact ih.trans (List.sublist_append_left _ _)
      · exact ih

/-- How many of a row are met, one behind the other, in another one. -/
def gm : List Int → List Int → Nat
  | [], _ => 0
  | _ :: _, [] => 0
  | e :: E, l :: L => if l = e then 1 + gm E L else gm E (l :: L)
theorem gm_sub : ∀ (E L : List Int), L.Sublist E → gm E L = L.length
  | [], L, h => by rw [List.sublist_nil.1 h]; rfl
  | e :: E, [], _ => rfl
  | e :: E, l :: L, h => by
    unfold gm
    cases h with
    | cons _ h =>
      split
      · have h' : L.Sublist E := (List.sublist_cons_self l L).trans h
        rw [gm_sub E L h', List.length_cons]; omega
      · exact gm_sub E (l :: L) h
    | cons_cons _ h => rw [if_pos rfl, gm_sub E L h, List.length_cons]; omega
theorem gm_nil (E : List Int) : gm E [] = 0 := by cases E <;> rfl
/-- One step of it. -/
theorem gm_step (E L : List Int) (i k : Nat) (hi : i < E.length) : gm (E.drop i) (L.drop k) = if k < L.length ∧ L.getD k 0 = E.getD i 0 then 1 + gm (E.drop (i + 1)) (L.drop (k + 1)) else gm (E.drop (i + 1)) (L.drop k) := by
  rw [List.drop_eq_getElem_cons hi]
  by_cases hk : k < L.length
  · rw [List.drop_eq_getElem_cons hk]
    have e1 : L.getD k 0 = L[k] := by rw [List.getD_eq_getElem?_getD, List.getElem?_eq_getElem hk]; rfl
    have e2 : E.getD i 0 = E[i] := by rw [List.getD_eq_getElem?_getD, List.getElem?_eq_getElem hi]; rfl
    rw [e1, e2]
    by_cases he : L[k] = E[i]
    · rw [if_pos ⟨hk, he⟩, gm, if_pos he]
    · rw [if_neg (fun h => he h.2), gm, if_neg he]
  · have hn : L.drop k = [] := List.drop_eq_nil_of_le (by omega)
    rw [if_neg (fun h => hk h.1), hn, gm_nil, gm_nil]
theorem pstep_U (s : PS) (a : Ac) : (pstep s a).U.length = s.U.length + (if a.d = 1 then 1 else 0) := by
  unfold pstep
  by_cases h0 : a.d = 0
  · rw [if_pos h0, if_neg (by omega)]; rfl
  · rw [if_neg h0]
    by_cases h1 : a.d = 1
    · rw [if_pos h1, if_pos h1]; simp
    · rw [if_neg h1, if_neg h1]; rfl
end Go.Proofs.Ytajnhjcinpdfhaa.cert
