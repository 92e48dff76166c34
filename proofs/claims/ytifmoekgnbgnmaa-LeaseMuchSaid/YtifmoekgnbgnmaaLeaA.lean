/-
  Package lease: a limiter's, or client's, block; what each method makes of it.
-/
import Derived.Test.YtifmoekgnbgnmaaGen
import Derived.Test.YtifmoekgnbgnmaaKit2
import Derived.Test.YtifmoekgnbgnmaaAround
import Derived.Test.YtifmoekgnbgnmaaSame
import Derived.BigRegion
import Derived.Deep.RegionHeld3
import Derived.StillTailTactics
namespace Go.Proofs.Ytifmoekgnbgnmaa.lease
open Go.ChangeShapes Go.WideShapes Go.ChangeAt Go.RowKit
set_option linter.unusedVariables false
set_option linter.unusedSimpArgs false

abbrev ptr (p : Nat) : Value := .pointer (some ⟨p, 0, none⟩)
abbrev rate (L W S : Int) : Value := .agg #[I L, I W, I S]
def okR (L W S : Int) : Prop := 1 ≤ L ∧ L ≤ 1000 ∧ 1 ≤ W ∧ W ≤ 1000 ∧ 1 ≤ S ∧ S ≤ L

/-- The block of a limiter, or of a client. -/
def LB (T : TypeId) (w : World) (p : Nat) (L W S k n : Int) : Prop := w.heap[p]? = some (.cells #[I L, I W, I S, I k, I n] T (0, 0))
theorem LB.lt {T w p L W S k n} (h : LB T w p L W S k n) : p < w.heap.size := lt_of_block h
theorem LB.kept {T} {w w' : World} {p L W S k n} (h : LB T w p L W S k n) (hb : w'.heap[p]? = w.heap[p]?) : LB T w' p L W S k n := hb.trans h
theorem LB.bl {T} {w w' : World} {p L W S k n} (h : LB T w p L W S k n) (hb : Bl w w') : LB T w' p L W S k n := h.kept (hb.block p h.lt)
theorem LB.gby {T} {w w' : World} {p q L W S k n} (h : LB T w p L W S k n) (hg : w.grownBy w' (some q)) (hne : p ≠ q) : LB T w' p L W S k n := h.kept (hg.block p h.lt (fun e => hne (by cases e; rfl)))
theorem LB.c {T w p L W S k n} (h : LB T w p L W S k n) : w.cell? ⟨p, 0, none⟩ = some (I L) ∧ w.cell? ⟨p, 1, none⟩ = some (I W) ∧ w.cell? ⟨p, 2, none⟩ = some (I S) ∧ w.cell? ⟨p, 3, none⟩ = some (I k) ∧ w.cell? ⟨p, 4, none⟩ = some (I n) := by
  unfold LB at h
  refine ⟨?_, ?_, ?_, ?_, ?_⟩ <;> simp [World.cell?, h]
theorem LB.free {T w p L W S k n} (h : LB T w p L W S k n) (i : Nat) : w.frozen? ⟨p, i, none⟩ = false := free_at h i
theorem LB.set3 {T w p L W S k n} (h : LB T w p L W S k n) (x : Int) : LB T (w.setCell ⟨p, 3, none⟩ (I x)) p L W S x n := set_at 3 (I x) h
theorem LB.set4 {T w p L W S k n} (h : LB T w p L W S k n) (x : Int) : LB T (w.setCell ⟨p, 4, none⟩ (I x)) p L W S k x := set_at 4 (I x) h

/-- What stands in the window of a tick. -/
def cur (W k n t : Int) : Int := if t / W = k then n else 0

theorem div_bd {t W : Int} (t0 : 0 ≤ t) (t1 : t ≤ 1000000) (w0 : 1 ≤ W) : 0 ≤ t / W ∧ t / W ≤ 1000000 := by
  have h := Int.ediv_le_self W t0
  exact ⟨Int.ediv_nonneg t0 (by omega), by omega⟩
theorem cur_bd {W k n t b : Int} (n0 : 0 ≤ n) (n1 : n ≤ b) : 0 ≤ cur W k n t ∧ cur W k n t ≤ b := by
  unfold cur
  split <;> omega

theorem turn_any (T : TypeId) (w : World) (p : Nat) (L W S k n t : Int) (h : LB T w p L W S k n) (hb : okR L W S) (t0 : 0 ≤ t) (t1 : t ≤ 1000000) :
    Calls Try.prog 30 #[ptr p, .int .i64 t] w fun e w' => e = .returned (.tuple #[]) ∧ LB T w' p L W S (t / W) (cur W k n t) ∧ w.grownBy w' (some p) := by
  obtain ⟨l0, l1, w0, w1, s0, s1⟩ := hb
  obtain ⟨c0, c1, c2, c3, c4⟩ := h.c
  have hq := div_bd t0 t1 w0
  have htd : t.tdiv W = t / W := Int.tdiv_eq_ediv_of_nonneg t0
  unfold cur
  obtain ⟨y, hy⟩ : ∃ y, t / W = y := ⟨_, rfl⟩
  rw [hy] at hq htd ⊢
  have hwd : IntKind.i64.wrap (t.tdiv W) = y := by rw [htd, IntKind.wrap_i64]; omega
  have hW : ¬ W = 0 := by omega
  clear hy
  have f3 := h.free 3
  have f4 := h.free 4
  by_cases hk : y = k
  · subst hk
    rw [if_pos rfl]
    have hne : (y != y) = false := by simp
    replace h := Lib.hid h
    go_enter Try.func30, Try.ntmps30
    go_wp2_with fail
    go_end0
    exact ⟨rfl, h.out, gby_rfl _ _⟩
  · rw [if_neg hk]
    have hne : (y != k) = true := bne_iff_ne.2 hk
    have hs := Lib.hid ((h.set3 y).set4 0)
    have hg := Lib.hid (gby_tr (gby_set w p 3 (I y)) (gby_set _ p 4 (I 0)))
    have f4' := (h.set3 y).free 4
    clear h hk
    go_enter Try.func30, Try.ntmps30
    go_wp2_with fail
    go_end0
    exact ⟨rfl, hs.out, hg.out⟩
end Go.Proofs.Ytifmoekgnbgnmaa.lease
