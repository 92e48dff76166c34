/-
  The windows of acts that are made of numbers; their row, read.
-/
import Derived.Test.YtifmoekgnbgnmaaWinE
namespace Go.Proofs.Ytifmoekgnbgnmaa.lease
open Go.ChangeShapes Go.WideShapes Go.ChangeAt Go.RowKit
set_option linter.unusedVariables false
set_option linter.unusedSimpArgs false

abbrev win0 : Win := (0, 0, 0, false)
theorem flatW_get : ∀ (A : List Win) (i : Nat), i < A.length → (flatW A)[i * 4]? = some (I (A.getD i win0).1) ∧ (flatW A)[i * 4 + 1]? = some (I (A.getD i win0).2.1) ∧ (flatW A)[i * 4 + 2]? = some (I (A.getD i win0).2.2.1) ∧ (flatW A)[i * 4 + 3]? = some (.bool (A.getD i win0).2.2.2)
  | [], i, h => by simp at h
  | x :: A, 0, _ => by simp [flatW]
  | x :: A, i + 1, h => by
    have := flatW_get A i (by simpa using h)
    rw [show (i + 1) * 4 = i * 4 + 4 by omega, show i * 4 + 4 + 1 = i * 4 + 1 + 4 by omega, show i * 4 + 4 + 2 = i * 4 + 2 + 4 by omega, show i * 4 + 4 + 3 = i * 4 + 3 + 4 by omega]
    simpa [flatW] using this
theorem wins_read {w : World} {b : Nat} {T : TypeId} {v : Value} {Ws : List Win} (h : w.ownsRow b T 4 v Ws.length (flatW Ws)) : ∃ a cap g, v = .slice a Ws.length cap ∧ ∀ w', Bl w w' → ∀ i, i < Ws.length → a = some ⟨g, 0, none⟩ ∧
    w'.cell? ⟨g, i * 4, none⟩ = some (I (Ws.getD i win0).1) ∧ w'.cell? ⟨g, i * 4 + 1, none⟩ = some (I (Ws.getD i win0).2.1) ∧ w'.cell? ⟨g, i * 4 + 2, none⟩ = some (I (Ws.getD i win0).2.2.1) ∧ w'.cell? ⟨g, i * 4 + 3, none⟩ = some (.bool (Ws.getD i win0).2.2.2) := by
  obtain ⟨a, g, cap, cur, rfl, hg, hh⟩ := own_blk h (by omega)
  refine ⟨a, cap, g, rfl, fun w' hb i hi => ?_⟩
  obtain ⟨rfl, h2, _, h4⟩ := hh (by omega)
  have h2' := var_bl h2 hb
  obtain ⟨q0, q1, q2, q3⟩ := flatW_get Ws i hi
  refine ⟨rfl, ?_, ?_, ?_, ?_⟩
  · rw [cell_at h2', h4 _ (by omega), q0]
  · rw [cell_at h2', h4 _ (by omega), q1]
  · rw [cell_at h2', h4 _ (by omega), q2]
  · rw [cell_at h2', h4 _ (by omega), q3]
def WinI (L W S : Int) (w0 : World) (v : Value) (w : World) : Prop := ∃ A b, okAs A ∧ w.ownsRow b 57 4 v (winds L W S A).length (flatW (winds L W S A)) ∧ Bl w0 w
theorem getD_memW (Ws : List Win) (i : Nat) (h : i < Ws.length) : Ws.getD i win0 ∈ Ws := by
  rw [List.getD_eq_getElem?_getD, List.getElem?_eq_getElem h]; exact List.getElem_mem h
theorem begun_len (pre : List Win) (last : Option Win) (k : Int) : (begun pre last k).1.length ≤ pre.length + last.toList.length := by
  unfold begun
  cases last with
  | none => simp
  | some v => simp only; split <;> simp
theorem fold_len (L W S : Int) : ∀ (A : List AC) (r : Run), (A.foldl (runStep L W S) r).out.length ≤ r.out.length + A.length
  | [], r => by simp
  | x :: A, r => by
    rw [List.foldl_cons]
    have h1 := fold_len L W S A (runStep L W S r x)
    have h2 : (runStep L W S r x).out.length ≤ r.out.length + 1 := by
      unfold runStep Run.out
      have := begun_len r.pre r.last (x.2.1 / W)
      simp only [Option.toList_some, List.length_append, List.length_cons, List.length_nil]
      omega
    simp only [List.length_cons]
    omega
theorem winds_len (L W S : Int) (A : List AC) : (winds L W S A).length ≤ A.length := by
  have := fold_len L W S A none0
  unfold winds runs
  simpa [none0, Run.out] using this
end Go.Proofs.Ytifmoekgnbgnmaa.lease
