/-
  Package link: what comes of a message.
-/
import Derived.Test.YtndipeipcodidaaLinH
namespace Go.Proofs.Ytndipeipcodidaa.link
open Go.ChangeShapes Go.WideShapes Go.ChangeAt Go.RowKit
set_option linter.unusedVariables false
set_option linter.unusedSimpArgs false

theorem getD_flt {A : List Flt} {P : Flt → Prop} (h : ∀ x ∈ A, P x) (h0 : P fl0) (i : Nat) : P (A.getD i fl0) := by
  rw [List.getD_eq_getElem?_getD]
  cases hh : A[i]? with
  | none => exact h0
  | some x => exact h _ (List.mem_of_getElem? hh)
theorem sendTo_at (A : List Flt) (now u v : Int) (s : SS) (hF : ∀ x ∈ A, okF x) : ∀ k, s.at_ ≤ (sendTo A now u v s k).at_ ∧ (sendTo A now u v s k).at_ ≤ s.at_ + 10000 * k
  | 0 => ⟨Int.le_refl _, by simp only [sendTo]; omega⟩
  | k + 1 => by
    obtain ⟨h1, h2⟩ := sendTo_at A now u v s hF k
    have hx := getD_flt hF ⟨by decide, by decide⟩ k
    obtain ⟨x0, x1⟩ := hx
    rw [show sendTo A now u v s (k + 1) = sendStep now u v (sendTo A now u v s k) k (A.getD k fl0) from rfl]
    unfold sendStep
    split
    · simp only
      split <;> omega
    · omega
theorem sq_at {A : List Flt} {now u v hop : Int} {cnt : List Int} (hF : ∀ x ∈ A, okF x) (hN : A.length ≤ 8) : now + hop ≤ (sq A now u v hop cnt).at_ ∧ (sq A now u v hop cnt).at_ ≤ now + hop + 80000 := by
  have := sendTo_at A now u v ⟨now + hop, false, false, cnt⟩ hF A.length
  unfold sq
  simp only at this
  omega
theorem sent_shape (s : SS) : sent s = [] ∨ sent s = [s.at_] ∨ sent s = [s.at_, s.at_ + 1] := by
  unfold sent
  split
  · exact Or.inl rfl
  · split
    · exact Or.inr (Or.inr rfl)
    · exact Or.inr (Or.inl rfl)
theorem Own.cells {w : World} {b : Nat} {v : Value} {z : List Int} (h : Own w b v z) : ∃ a g cap, v = .slice a z.length cap ∧ b ≤ g ∧ ∀ i, i < z.length → a = some ⟨g, 0, none⟩ ∧ w.cell? ⟨g, i, none⟩ = some (I (z.getD i 0)) := by
  obtain ⟨a, g, cap, cur, h1, h2, h3⟩ := own_blk h (by decide)
  refine ⟨a, g, cap, h1, h2, fun i hi => ?_⟩
  obtain ⟨q1, q2, -, q4⟩ := h3 (by omega)
  refine ⟨q1, ?_⟩
  rw [cell_at q2, q4 i (by omega), List.getElem?_map, List.getD_eq_getElem?_getD, List.getElem?_eq_getElem hi]
  rfl
end Go.Proofs.Ytndipeipcodidaa.link
