/-
  Package split: what holds of parts that may be (pure).
-/
import Derived.Test.YtndlglkokbchbaaSpK
import Derived.Test.YtndlglkokbchbaaOwn
namespace Go.Proofs.Ytndlglkokbchbaa.split
open Go.ChangeShapes Go.WideShapes Go.ChangeAt Go.RowKit
set_option linter.unusedVariables false
set_option linter.unusedSimpArgs false

theorem chk_ok {R : List Pt} (h1 : ∀ i, i < R.length → 1 ≤ (R.getD i p0).s ∧ (R.getD i p0).s ≤ 10) (h2 : ∀ i j, i < j → j < R.length → (R.getD i p0).s ≠ (R.getD j p0).s) (h3 : ∀ i, i < R.length → 0 ≤ (R.getD i p0).w ∧ (R.getD i p0).w ≤ 100) (h4 : ahd R R.length ≠ 0) : chkF R = 0 := by
  have hn : ∀ n, n ≤ R.length → chkTo R n = none := by
    intro n
    induction n with
    | zero => intro _; rfl
    | succ n ih =>
      intro hn
      refine chk_next (ih (by omega)) ?_
      unfold chkAt
      have a1 := h1 n (by omega)
      have a3 := h3 n (by omega)
      have a2 : twiceB R n (R.getD n p0).s = false := by
        unfold twiceB
        rw [List.any_eq_false]
        intro x hx
        obtain ⟨i, hi, rfl⟩ := List.mem_iff_getElem.1 hx
        rw [List.length_take] at hi
        have := h2 i n (by omega) (by omega)
        rw [List.getD, List.getElem?_eq_getElem (show i < R.length by omega)] at this
        simpa using this
      rw [if_neg (by omega), if_neg (by rw [a2]; decide), if_neg (by omega)]
  rw [chk_end (hn _ (Nat.le_refl _)), if_neg h4]
theorem pick_in {R : List Pt} (h : okP R) (hp : 1 ≤ ahd R R.length) (hs : ∀ i, i < R.length → 1 ≤ (R.getD i p0).s ∧ (R.getD i p0).s ≤ 10) (d : Int) : 1 ≤ pickF R d ∧ pickF R d ≤ 10 := by
  obtain ⟨k, h1, h2, h3⟩ := at_ex h (Int.emod_nonneg d (show ahd R R.length ≠ 0 by omega)) (Int.emod_lt_of_pos d (show 0 < ahd R R.length by omega))
  rw [pick_at h h1 h2 h3]
  exact hs k h1


/-- Sums of parts in another row. -/
theorem ahd_app (A B : List Pt) : ahd (A ++ B) (A ++ B).length = ahd A A.length + ahd B B.length := by
  rw [ahd_all, ahd_all, ahd_all, List.map_append, List.sum_append]
theorem ahd_turn (R : List Pt) (k : Nat) : ahd (R.drop k ++ R.take k) (R.drop k ++ R.take k).length = ahd R R.length := by
  have h := ahd_app (R.take k) (R.drop k)
  rw [List.take_append_drop] at h
  rw [ahd_app, h, Int.add_comm]
theorem wsum_turn (R : List Pt) (k : Nat) (s : Int) : wsum (R.drop k ++ R.take k) s = wsum R s := by
  have h := wsum_app (R.take k) (R.drop k) s
  rw [List.take_append_drop] at h
  rw [wsum_app, h, Int.add_comm]
/-- The counts as a slice of numbers. -/
def ccL (R : List Pt) (f n : Nat) : List Int := (List.range 11).map fun s => (cc R f n s : Int)
theorem cc_ints {w : World} {g : Nat} {R : List Pt} {f n : Nat} (h : w.heap[g]? = some (oC R f n)) : IntsAt w (.slice (some ⟨g, 0, none⟩) 11 11) (ccL R f n) := by
  have he : (List.range 11).map (ccF R f n) = (ccL R f n).map I := by unfold ccL; rw [List.map_map]; rfl
  have hl : (ccL R f n).length = 11 := by simp [ccL]
  have ho : w.ownsRow 0 3 1 (.slice (some ⟨g, 0, none⟩) 11 11) 11 ((ccL R f n).map I) := by
    refine ⟨by simp [hl], Or.inr ⟨g, 11, _, rfl, Nat.zero_le _, h, Nat.le_refl _, by decide, by simp, ?_⟩⟩
    rw [he]
    simp only [Nat.mul_one]
    exact List.take_of_length_le (by simp [hl])
  have := Rd.of_own (g := icell (ccL R f n)) ho (fun i hi => by
    rw [List.getElem?_map, List.getElem?_eq_getElem (by omega)]
    unfold icell
    rw [List.getD_eq_getElem?_getD, List.getElem?_eq_getElem (by omega)]; rfl)
  unfold IntsAt
  rw [hl]
  exact this
theorem ccL_eq {R Y : List Pt} (hR : okP R) (hY : okP Y) {m : Nat} (h1 : ahd R R.length = (m : Int)) (h2 : ahd Y Y.length = (m : Int)) (hw : ∀ s : Nat, s < 11 → wsum R s = wsum Y s) : ccL R 0 m = ccL Y 0 m := by
  unfold ccL
  refine List.map_congr_left (fun s hs => ?_)
  have a1 := cnt_all hR s h1 0 1
  have a2 := cnt_all hY s h2 0 1
  rw [Nat.one_mul] at a1 a2
  unfold cc
  rw [a1, a2, hw s (List.mem_range.1 hs)]
end Go.Proofs.Ytndlglkokbchbaa.split
