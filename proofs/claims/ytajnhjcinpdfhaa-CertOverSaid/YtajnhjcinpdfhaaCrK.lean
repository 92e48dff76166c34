/-
  Package cert: what a rotation leaves.
-/
import Derived.Test.YtajnhjcinpdfhaaCrJ
namespace Go.Proofs.Ytajnhjcinpdfhaa.cert
open Go.ChangeShapes Go.WideShapes Go.ChangeAt Go.RowKit
set_option linter.unusedVariables false
set_option linter.unusedSimpArgs false

theorem chk0 (U : List Int) (G : List Crt) (S : List Int) (c : Crt) (v now : Int) : chkE U G S c v now = 0 ↔ gvB G c = true ∧ c.v = v ∧ trB U c.r now = true ∧ c.s ∉ S ∧ c.f ≤ now ∧ now < c.t := by
  unfold chkE
  cases h1 : gvB G c with
  | false => simp
  | true =>
    by_cases h2 : c.v = v
    · cases h3 : trB U c.r now with
      | false => simp [h2]
      | true =>
        by_cases h4 : c.s ∈ S
        · simp [h2, h4]
        · by_cases h5 : c.f ≤ now
          · by_cases h6 : now < c.t
            · have h7 : ¬ now < c.f := by omega
              have h8 : ¬ c.t ≤ now := by omega
              simp [h2, h4, h5, h6, h7, h8]
            · have h8 : c.t ≤ now := by omega
              simp [h2, h4, h6, h8]
          · have h7 : now < c.f := by omega
            simp [h2, h4, h5, h7]
    · simp [h2]
theorem gv_app {G : List Crt} {c : Crt} (X : List Crt) (h : gvB G c = true) : gvB (G ++ X) c = true := by
  unfold gvB at h ⊢
  simp only [Bool.and_eq_true, decide_eq_true_eq] at h ⊢
  refine ⟨by rw [List.length_append]; omega, ?_⟩
  rw [getD_app_l _ _ _ _ (by omega)]; exact h.2
theorem gv_last (G : List Crt) (c : Crt) (h : c.s = (G.length : Int) + 1) : gvB (G ++ [c]) c = true := by
  unfold gvB
  simp only [Bool.and_eq_true, decide_eq_true_eq]
  refine ⟨by rw [List.length_append]; simp; omega, ?_⟩
  rw [h, show ((G.length : Int) + 1 - 1).toNat = G.length by omega]; exact getD_app_r _ _ _
def rotU (U : List Int) (en : Int) : List Int := U.map (fun u => min u en) ++ [en]
theorem rotU_len (U : List Int) (en : Int) : (rotU U en).length = U.length + 1 := by unfold rotU; simp
theorem tr_rot (U : List Int) (en r now : Int) (h1 : 1 ≤ r) (h2 : r ≤ (U.length : Int) + 1) : trB (rotU U en) r now = (decide (now < en) && trB U r now) := by
  obtain ⟨k, rfl⟩ : ∃ k : Nat, r = (k : Int) + 1 := ⟨(r - 1).toNat, by omega⟩
  unfold trB
  rw [rotU_len, show ((k : Int) + 1 - 1).toNat = k by omega]
  by_cases hk : k < U.length
  · have e1 : (rotU U en).getD k 0 = min (U.getD k 0) en := by
      unfold rotU
      rw [getD_app_l _ _ _ _ (by simpa using hk), List.getD_eq_getElem?_getD, List.getD_eq_getElem?_getD, List.getElem?_map, List.getElem?_eq_getElem hk]; rfl
    rw [e1, decide_eq_false (show ¬ ((k : Int) + 1 = ((U.length + 1 : Nat) : Int) + 1) by omega), decide_eq_false (show ¬ ((k : Int) + 1 = (U.length : Int) + 1) by omega),
      decide_eq_true (show 1 ≤ (k : Int) + 1 ∧ (k : Int) + 1 ≤ ((U.length + 1 : Nat) : Int) by omega), decide_eq_true (show 1 ≤ (k : Int) + 1 ∧ (k : Int) + 1 ≤ (U.length : Int) by omega)]
    by_cases h3 : now < en <;> by_cases h4 : now < U.getD k 0
    · rw [decide_eq_true h3, decide_eq_true h4, decide_eq_true (by omega)]; rfl
    · rw [decide_eq_true h3, decide_eq_false h4, decide_eq_false (by omega)]; rfl
    · rw [decide_eq_false h3, decide_eq_true h4, decide_eq_false (by omega)]; rfl
    · rw [decide_eq_false h3, decide_eq_false h4, decide_eq_false (by omega)]; rfl
  · obtain rfl : k = U.length := by omega
    have e1 : (rotU U en).getD U.length 0 = en := by
      have := getD_app_r (U.map (fun u => min u en)) en 0
      rw [List.length_map] at this
      exact this
    rw [e1, decide_eq_false (show ¬ ((U.length : Int) + 1 = ((U.length + 1 : Nat) : Int) + 1) by omega), decide_eq_true (show 1 ≤ (U.length : Int) + 1 ∧ (U.length : Int) + 1 ≤ ((U.length + 1 : Nat) : Int) by omega)]
    simp
theorem tr_rng {U : List Int} {r now : Int} (h : trB U r now = true) : 1 ≤ r ∧ r ≤ (U.length : Int) + 1 := by
  unfold trB at h
  simp only [Bool.or_eq_true, Bool.and_eq_true, decide_eq_true_eq] at h
  omega
/-- What was right is right behind a rotation as long as it says. -/
theorem over_fine {U : List Int} {G : List Crt} {S : List Int} {c : Crt} {t at_ en : Int} (X : List Crt) (h : chkE U G S c c.v t = 0) (ht : t ≤ at_) :
    (chkE (rotU U en) (G ++ X) S c c.v at_ == 0) = (decide (at_ < en) && decide (at_ < c.t) && decide (c.r ∈ rootsTo U at_ (U.length + 1))) := by
  obtain ⟨h1, -, h3, h4, h5, h6⟩ := (chk0 ..).1 h
  obtain ⟨r1, r2⟩ := tr_rng h3
  have hr : c.r ∈ rootsTo U at_ (U.length + 1) ↔ trB U c.r at_ = true := by rw [mem_rootsTo]; exact ⟨fun h => h.2, fun h => ⟨by omega, h⟩⟩
  have hm : chkE (rotU U en) (G ++ X) S c c.v at_ = 0 ↔ ((at_ < en ∧ at_ < c.t) ∧ c.r ∈ rootsTo U at_ (U.length + 1)) := by
    rw [chk0, hr, tr_rot U en c.r at_ r1 r2, Bool.and_eq_true, decide_eq_true_eq]
    constructor
    · rintro ⟨-, -, ⟨a, b⟩, -, -, d⟩; exact ⟨⟨a, d⟩, b⟩
    · rintro ⟨⟨a, d⟩, b⟩; exact ⟨gv_app X h1, rfl, ⟨a, b⟩, h4, by omega, d⟩
  rw [Bool.eq_iff_iff]
  simp only [beq_iff_eq, Bool.and_eq_true, decide_eq_true_eq]
  exact hm
theorem over_long {U : List Int} {G : List Crt} {S : List Int} {c : Crt} {t at_ en : Int} (X : List Crt) (hs : c.s = (G.length : Int) + 1) (hr : c.r = (U.length : Int) + 1) (hS : ∀ x ∈ S, 1 ≤ x ∧ x ≤ G.length) (hf : c.f ≤ at_) (h3 : at_ < c.t) :
    (chkE (rotU U en) (G ++ [c] ++ X) S c c.v at_ == 0) = decide (at_ < en) := by
  have hm : chkE (rotU U en) (G ++ [c] ++ X) S c c.v at_ = 0 ↔ at_ < en := by
    rw [chk0, hr, tr_rot U en _ at_ (by omega) (by omega), tr_newest, Bool.and_true, decide_eq_true_eq]
    constructor
    · rintro ⟨-, -, a, -, -, d⟩; exact a
    · intro a; exact ⟨gv_app X (gv_last G c hs), rfl, a, fun h => by have := hS _ h; omega, hf, h3⟩
  rw [Bool.eq_iff_iff, beq_iff_eq, decide_eq_true_eq]
  exact hm
theorem over_new {U : List Int} {G : List Crt} {S : List Int} {c : Crt} {now : Int} (hs : c.s = (G.length : Int) + 1) (hr : c.r = (U.length : Int) + 1) (hS : ∀ x ∈ S, 1 ≤ x ∧ x ≤ G.length) (hf : c.f ≤ now) (h3 : now < c.t) : chkE U (G ++ [c]) S c c.v now = 0 := by
  rw [chk0, hr]
  exact ⟨gv_last G c hs, rfl, tr_newest U now, fun h => by have := hS _ h; omega, hf, h3⟩
theorem over_other {U : List Int} {G : List Crt} {S : List Int} {c : Crt} {v now : Int} (h : c.v ≠ v) : chkE U G S c v now = 20 := by
  unfold chkE
  split
  · rfl
  · rw [if_pos (by simp [h])]
theorem filter_snoc (p : Crt → Bool) (G : List Crt) (k : Nat) (h : k < G.length) : (G.take (k + 1)).filter p = if p (G.getD k c0) = true then (G.take k).filter p ++ [G.getD k c0] else (G.take k).filter p := by
  rw [take_snoc G k c0 h, List.filter_append]
  split
  · rename_i hp; rw [List.filter_cons_of_pos hp]; rfl
  · rename_i hp; rw [List.filter_cons_of_neg hp]; simp
theorem mem_take_succ_i (G : List Int) (c : Int) (k : Nat) (hk : k < G.length) : decide (c ∈ G.take (k + 1)) = (decide (c ∈ G.take k) || (G.getD k 0 == c)) := by
  rw [take_snoc G k 0 hk]
  by_cases h1 : c ∈ G.take k
  · simp [h1]
  · by_cases h2 : G.getD k 0 = c
    · simp only [h2, beq_self_eq_true, Bool.or_true, decide_eq_true_eq, List.mem_append, List.mem_singleton, or_true]
    · have h3 : c ∉ G.take k ++ [G.getD k 0] := by
        rw [List.mem_append, List.mem_singleton]; rintro (h | h)
        · exact h1 h
        · exact h2 h.symm
      rw [decide_eq_false h1, beq_eq_false_iff_ne.2 h2, decide_eq_false h3]; rfl
end Go.Proofs.Ytajnhjcinpdfhaa.cert
