/-
  Package split: an argument that is a slice of parts.
-/
import Derived.Test.YtndlglkokbchbaaSpM
import Derived.Deep.SlicePairs
namespace Go.Proofs.Ytndlglkokbchbaa.split
open Go.ChangeShapes Go.WideShapes Go.ChangeAt Go.RowKit
set_option linter.unusedVariables false
set_option linter.unusedSimpArgs false

def i64P (R : List Pt) : Prop := ∀ x ∈ R, (-9223372036854775808 ≤ x.s ∧ x.s ≤ 9223372036854775807) ∧ (-9223372036854775808 ≤ x.w ∧ x.w ≤ 9223372036854775807)
/-- A slice of parts, however many. -/
def PartsN (w : World) (v : Value) (R : List Pt) : Prop := ∃ a g o cap, v = .slice a R.length cap ∧ RowZ w g o a R ∧ (R = [] ∨ g < w.heap.size) ∧ R.length ≤ cap ∧ cap ≤ 9223372036854775807 ∧ i64P R
theorem PartsN.bl {w w' : World} {v : Value} {R : List Pt} (h : PartsN w v R) (hb : Bl w w') : PartsN w' v R := by
  obtain ⟨a, g, o, cap, h1, h2, h3, h4⟩ := h
  exact ⟨a, g, o, cap, h1, h2.bl hb, h3.imp id (fun h => Nat.lt_of_lt_of_le h hb.size), h4⟩
theorem cellsP : Try.prog.cellsOf 25 = 2 := by kernel_rfl
theorem cellsI1 : Try.prog.cellsOf 3 = 1 := by kernel_rfl
def numV : Value → Int | .int _ k => k | _ => 0
theorem open_parts {H : Type} {enc : TypeId × Value → H} {W : World} {base : Nat} {v : Value} {d : DataW H} {p : List MemPlace}
    (hlt : ∀ x ∈ p, x.block < W.heap.size) (hv : Value.okWide Try.prog W .any base 22 v) (h : DataW.Trod enc Try.prog W 0 (fun _ => true) true 22 v d p) :
    ∃ R : List Pt, PartsN W v R := by
  obtain ⟨a0, len, cap, rfl⟩ := okWide_slice Try.underlying22 hv
  obtain ⟨fuel, hf⟩ := h
  rcases Deep.open_slice_pairs Try.underlying22 Try.underlying25 cellsP rfl rfl cellsI1 cellsI1 hf with ⟨hcs, hx⟩ | ⟨a, len', cap', m, n, V0, V1, D0, D1, P0, P1, hcs, -, hl, hm, hmm, hx, hall⟩
  · simp [Value.cells] at hcs
    obtain ⟨rfl, rfl, rfl⟩ := hcs
    exact ⟨[], none, 0, 0, 0, rfl, fun h => by simp at h, Or.inl rfl, by simp, by simp, fun x hx => by simp at hx⟩
  · simp [Value.cells] at hcs
    obtain ⟨rfl, rfl, rfl⟩ := hcs
    simp only [if_true] at hmm
    subst hmm
    have hint : ∀ i, i < m → ((V0 i = I (numV (V0 i)) ∧ V1 i = I (numV (V1 i))) ∧ (-9223372036854775808 ≤ numV (V0 i) ∧ numV (V0 i) ≤ 9223372036854775807) ∧ (-9223372036854775808 ≤ numV (V1 i) ∧ numV (V1 i) ≤ 9223372036854775807)) := fun i hi => by
      obtain ⟨-, -, t0, t1⟩ := hall i hi
      obtain ⟨k0, e0, -, w0⟩ := DataW.trod_int Try.underlying3 t0
      obtain ⟨k1, e1, -, w1⟩ := DataW.trod_int Try.underlying3 t1
      simp only [List.cons.injEq, and_true] at e0 e1
      simp only [Lit.wf, Bool.and_eq_true, decide_eq_true_eq] at w0 w1
      rw [e0, e1]
      exact ⟨⟨rfl, rfl⟩, w0, w1⟩
    let f : Nat → Pt := fun i => ⟨numV (V0 i), numV (V1 i)⟩
    have hflat : ∀ n j, j < n * 2 → (flatB pB ((List.range n).map f))[j]? = some (if j % 2 = 0 then I (f (j / 2)).s else I (f (j / 2)).w) := by
      intro n
      induction n with
      | zero => intro j hj; omega
      | succ n ih =>
        intro j hj
        rw [List.range_succ, List.map_append, flatB_app]
        have hl2 : (flatB pB ((List.range n).map f)).length = n * 2 := by rw [flatB_len pB_len]; simp
        by_cases hjn : j < n * 2
        · rw [List.getElem?_append_left (by omega)]; exact ih j hjn
        · rw [List.getElem?_append_right (by omega), hl2]
          have : j = n * 2 ∨ j = n * 2 + 1 := by omega
          rcases this with rfl | rfl
          · rw [Nat.sub_self, if_pos (by omega), show n * 2 / 2 = n by omega]; rfl
          · rw [show n * 2 + 1 - n * 2 = 1 by omega, if_neg (by omega), show (n * 2 + 1) / 2 = n by omega]; rfl
    refine ⟨(List.range len).map f, ?_⟩
    have hlen : ((List.range len).map f).length = len := by simp
    by_cases h0 : len = 0
    · subst h0
      exact ⟨_, 0, 0, m, rfl, fun h => by simp at h, Or.inl rfl, by simp, hm, fun x hx => by simp at hx⟩
    · obtain ⟨b, off, spot⟩ := a
      have hc0 := (hall 0 (by omega)).1
      have hspot : spot = none := by simpa [Addr.add] using World.cell?_spot hc0
      subst hspot
      have hbl : b < W.heap.size := by
        have := hc0
        simp only [Nat.zero_mul, add_plain, Nat.add_zero] at this
        obtain ⟨ob, ho, -⟩ := cells_of_cell this
        exact lt_of_block ho
      refine ⟨some ⟨b, off, none⟩, b, off, m, by rw [hlen], fun _ => ⟨rfl, ?_, fun j hj => ?_⟩, Or.inr hbl, by omega, hm, fun x hx => ?_⟩
      · have := hc0
        simp only [Nat.zero_mul, add_plain, Nat.add_zero] at this
        exact cells_of_cell this
      · rw [hlen] at hj
        rw [hflat len j hj]
        obtain ⟨c0, c1, -, -⟩ := hall (j / 2) (by omega)
        obtain ⟨⟨e0, e1⟩, -⟩ := hint (j / 2) (by omega)
        rw [add_plain] at c0 c1
        by_cases hj2 : j % 2 = 0
        · rw [if_pos hj2, show j = j / 2 * 2 by omega, show (j / 2 * 2) / 2 = j / 2 by omega]
          rw [e0] at c0
          exact c0
        · rw [if_neg hj2]
          rw [e1] at c1
          rw [show off + j = off + (j / 2 * 2 + 1) by omega]
          exact c1
      · obtain ⟨i, hi, rfl⟩ := List.mem_map.1 hx
        exact (hint i (by have := List.mem_range.1 hi; omega)).2
end Go.Proofs.Ytndlglkokbchbaa.split
