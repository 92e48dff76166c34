/-
  Package split: rows of parts; what behind hands out.
-/
import Derived.Test.YtndlglkokbchbaaSpT
import Derived.RangeFuncNested
import Derived.RangeFuncBound
import Derived.RangeFuncCalls
import Derived.RangeFuncLeaves
import Derived.Shelf.Abstract
import Derived.Shelf.RegionOpen
import Derived.WalkKit
import Derived.OwnWalkIn
import Derived.TacticsInMore
import Derived.LoopNIn
import Derived.LoopIn
namespace Go.Proofs.Ytndlglkokbchbaa.split
open Go.ChangeShapes Go.WideShapes Go.ChangeAt Go.RowKit Go.Shelf
set_option linter.unusedVariables false
set_option linter.unusedSimpArgs false
attribute [local go_sem] Oper.semAt_some

/-- The weights of the first k together. -/
def ahd (R : List Pt) : Nat → Int
  | 0 => 0
  | k + 1 => ahd R k + (R.getD k p0).w
/-- What the first k rounds are handed. -/
def evP (R : List Pt) : Nat → List (Int × Pt)
  | 0 => []
  | k + 1 => evP R k ++ [(ahd R k, R.getD k p0)]
theorem evP_len (R : List Pt) : ∀ k, (evP R k).length = k
  | 0 => rfl
  | k + 1 => by simp [evP, evP_len R k]
theorem evP_pre (R : List Pt) : ∀ {k n}, k ≤ n → evP R k <+: evP R n := by
  intro k n h
  induction n with
  | zero => obtain rfl : k = 0 := by omega
            exact List.prefix_refl _
  | succ n ih =>
    by_cases hk : k = n + 1
    · subst hk; exact List.prefix_refl _
    · exact (ih (by omega)).trans (List.prefix_append _ _)
def okP (R : List Pt) : Prop := (∀ x ∈ R, 0 ≤ x.w ∧ x.w ≤ 1000) ∧ R.length ≤ 1000
theorem okP.at {R : List Pt} (h : okP R) (k : Nat) : 0 ≤ (R.getD k p0).w ∧ (R.getD k p0).w ≤ 1000 := by
  by_cases hk : k < R.length
  · have : R.getD k p0 ∈ R := by simp [List.getD, List.getElem?_eq_getElem hk]
    exact h.1 _ this
  · rw [List.getD, List.getElem?_eq_none (by omega)]
    exact ⟨by decide, by decide⟩
theorem okP.ahd {R : List Pt} (h : okP R) : ∀ k, 0 ≤ ahd R k ∧ ahd R k ≤ 1000 * k
  | 0 => by simp [split.ahd]
  | k + 1 => by
    have h1 := okP.ahd h k
    have h2 := h.at k
    simp only [split.ahd]
    omega

/-- A round turns no cells but those of B. -/
structure KB (B : Nat) (W W' : World) : Prop where
  size : W.heap.size ≤ W'.heap.size
  same : ∀ (k : Nat) (o : Obj), W.heap[k]? = some o → o.isCells = true → k ≠ B → W'.heap[k]? = some o
theorem KB.tr {B : Nat} {X Y Z : World} (h : KB B X Y) (k : KB B Y Z) : KB B X Z := ⟨Nat.le_trans h.size k.size, fun i o hi ho hb => k.same i o (h.same i o hi ho hb) ho hb⟩
theorem KB.put {B : Nat} (W : World) (l : Nat) (o o' : Obj) (h : W.heap[l]? = some o) (ho : o.isCells = false) : KB B W (W.putObj l o') :=
  ⟨(grownBy_putObj' W l o').size, fun k q hk hq _ => ((grownBy_putObj' W l o').block k (Array.getElem?_eq_some_iff.1 hk).1 (fun e => by cases e; rw [h] at hk; cases hk; rw [ho] at hq; cases hq)).trans hk⟩
theorem KB.al (B : Nat) (W : World) (o : Obj) : KB B W (W.alloc o) := ⟨by simp, fun k q hk _ _ => (Below.heap_alloc W o k (Array.getElem?_eq_some_iff.1 hk).1).trans hk⟩
theorem KB.set (B : Nat) (W : World) (v : Value) : KB B W (W.setCell ⟨B, 0, none⟩ v) := ⟨by simp [World.setCell], fun k q hk _ hn => (Below.heap_setCell W _ _ k hn).trans hk⟩
theorem KB.rfl' (B : Nat) (W : World) : KB B W W := ⟨Nat.le_refl _, fun k q hk _ _ => hk⟩
/-- A slice of parts, as it reads: in a block of any kind of cells. -/
def RowZ (w : World) (g o : Nat) (a : Option Addr) (R : List Pt) : Prop :=
  0 < R.length → a = some ⟨g, o, none⟩ ∧ (∃ ob, w.heap[g]? = some ob ∧ ob.isCells = true) ∧ ∀ j, j < R.length * 2 → w.cell? ⟨g, o + j, none⟩ = (flatB pB R)[j]?
theorem RowZ.kept {w w' : World} {g o : Nat} {a : Option Addr} {R : List Pt} (h : RowZ w g o a R) (hb : ∀ x, w.heap[g]? = some x → x.isCells = true → w'.heap[g]? = some x) : RowZ w' g o a R := fun hl => by
  obtain ⟨h1, ⟨ob, h2, h3⟩, h4⟩ := h hl
  refine ⟨h1, ⟨ob, hb _ h2 h3, h3⟩, fun j hj => ?_⟩
  rw [← h4 j hj]
  unfold World.cell?
  rw [hb _ h2 h3, h2]
theorem RowZ.bl {w w' : World} {g o : Nat} {a : Option Addr} {R : List Pt} (h : RowZ w g o a R) (hb : Bl w w') : RowZ w' g o a R := h.kept (fun _ h _ => blk_bl h hb)
theorem RowZ.c {w : World} {g o : Nat} {a : Option Addr} {R : List Pt} (h : RowZ w g o a R) (i : Nat) (hi : i < R.length) : a = some ⟨g, o, none⟩ ∧ ∀ f, f < 2 → w.cell? ⟨g, o + (i * 2 + f), none⟩ = (pB (R.getD i p0))[f]? := by
  obtain ⟨h1, -, h4⟩ := h (by omega)
  refine ⟨h1, fun f hf => ?_⟩
  rw [h4 _ (by omega), flatB_get pB_len p0 f hf R i hi]
theorem RowZ.lt {w : World} {g o : Nat} {a : Option Addr} {R : List Pt} (h : RowZ w g o a R) (h0 : 0 < R.length) : g < w.heap.size := by
  obtain ⟨-, ⟨ob, h2, -⟩, -⟩ := h h0
  exact lt_of_block h2
theorem row_z {w : World} {g o : Nat} {a : Option Addr} {R : List Pt} (h : RowB pB 2 w g o a R) : RowZ w g o a R := fun hl => by
  obtain ⟨h1, cur, T, h2, h3⟩ := h hl
  exact ⟨h1, ⟨_, h2, rfl⟩, fun j hj => by rw [cell_at h2, h3 j hj]⟩
theorem KB.row {B : Nat} {W W' : World} {g o : Nat} {a : Option Addr} {R : List Pt} (h : KB B W W') (hr : RowZ W g o a R) (hg : g ≠ B) : RowZ W' g o a R := hr.kept (fun x h1 h2 => h.same _ _ h1 h2 hg)
end Go.Proofs.Ytndlglkokbchbaa.split
