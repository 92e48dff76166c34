/-
  Package heads: what Set is, as lists, Drop.
-/
import Derived.Test.YtnmehmlenbbfbaaHdC
import Derived.Test.YtnmehmlenbbfbaaFeed
namespace Go.Proofs.Ytnmehmlenbbfbaa.heads
open Go.ChangeShapes Go.WideShapes Go.ChangeAt Go.RowKit Go.Shelf Go.Lib
set_option linter.unusedVariables false
set_option linter.unusedSimpArgs false

theorem infoH : (Try.prog.info? 49).map (fun i => (i.zero, i.size, i.bytes)) = some (some (.agg #[S ByteArray.empty, S ByteArray.empty]), 2, 32) := by kernel_rfl
theorem flat_one : ∀ (A : List Hd), ∀ u ∈ flatB hB A, u.oneCell' = true
  | [], u, h => by simp [flatB] at h
  | x :: A, u, h => by
    rcases List.mem_append.1 (show u ∈ hB x ++ flatB hB A from h) with h | h
    · simp at h; rcases h with rfl | rfl <;> rfl
    · exact flat_one A u h
theorem heads_feed {w : World} {v : Value} {A : List Hd} (h : HeadsAt w v A) : Feed w v A.length 2 (flatB hB A) := by
  obtain ⟨a, g, o, cap, rfl, h1, ⟨h2, h3⟩, hr⟩ := h
  cases a with
  | none =>
    have hc := h3 rfl
    subst hc
    have hl : A = [] := List.eq_nil_of_length_eq_zero (by omega)
    subst hl
    exact Or.inl ⟨rfl, rfl, rfl⟩
  | some ad =>
    refine Or.inr ⟨ad, cap, rfl, flatB_len hB_len A, fun j x hj => ?_⟩
    have hj2 := (List.getElem?_eq_some_iff.1 hj).1
    rw [flatB_len hB_len] at hj2
    obtain ⟨q1, cur, T, q2, q3⟩ := hr (by omega)
    cases q1
    rw [add_plain, cell_at q2, q3 j hj2]
    exact hj
theorem flat_set : ∀ (A : List Hd) (i : Nat) (s : ByteArray), (flatB hB A).set (i * 2 + 1) (S s) = flatB hB (A.set i ⟨(A.getD i h0).n, s⟩)
  | [], i, s => rfl
  | x :: A, 0, s => rfl
  | x :: A, i + 1, s => by
    have ih := flat_set A i s
    show (S x.n :: S x.v :: flatB hB A).set ((i + 1) * 2 + 1) (S s) = S x.n :: S x.v :: flatB hB (A.set i ⟨(A.getD i h0).n, s⟩)
    rw [← ih, show (i + 1) * 2 + 1 = (i * 2 + 1) + 1 + 1 by omega]
    rfl
theorem own_set {w : World} {b g cap : Nat} {A : List Hd} {i : Nat} (s : ByteArray) (h : w.ownsRow b 49 2 (.slice (some ⟨g, 0, none⟩) A.length cap) A.length (flatB hB A)) (hi : i < A.length) :
    (w.setCell ⟨g, i * 2 + 1, none⟩ (S s)).ownsRow b 49 2 (.slice (some ⟨g, 0, none⟩) A.length cap) A.length (flatB hB (A.set i ⟨(A.getD i h0).n, s⟩)) ∧ w.grownBy (w.setCell ⟨g, i * 2 + 1, none⟩ (S s)) (some g) := by
  refine ⟨?_, gby_set w g (i * 2 + 1) (S s)⟩
  rcases h.2 with ⟨h1, -⟩ | ⟨g', cap', cur, h1, h4, h5, h6, h7, h8, h9⟩
  · simp at h1
  · simp only [Value.slice.injEq, Option.some.injEq, Addr.mk.injEq, and_true, true_and] at h1
    obtain ⟨rfl, rfl⟩ := h1
    refine ⟨by rw [flatB_len hB_len, List.length_set], Or.inr ⟨g, cap, _, rfl, h4, set_at (i * 2 + 1) (S s) h5, h6, h7, by rw [Array.size_setIfInBounds]; exact h8, ?_⟩⟩
    rw [← flat_set, ← h9, Array.toList_setIfInBounds, List.take_set]
theorem own_cells {w : World} {b g cap : Nat} {A : List Hd} {i : Nat} (h : w.ownsRow b 49 2 (.slice (some ⟨g, 0, none⟩) A.length cap) A.length (flatB hB A)) (hi : i < A.length) :
    ∃ cur, w.heap[g]? = some (.cells cur 49 (0, 0)) ∧ b ≤ g ∧ w.cell? ⟨g, i * 2 + 1, none⟩ = some (S (A.getD i h0).v) ∧ w.cell? ⟨g, i * 2, none⟩ = some (S (A.getD i h0).n) := by
  have h' : OwnB hB 2 49 w b (.slice (some ⟨g, 0, none⟩) A.length cap) A := h
  rcases h.2 with ⟨h1, -⟩ | ⟨g', cap', cur, h1, h4, h5, h6, h7, h8, h9⟩
  · simp at h1
  · simp only [Value.slice.injEq, Option.some.injEq, Addr.mk.injEq, and_true, true_and] at h1
    obtain ⟨rfl, rfl⟩ := h1
    obtain ⟨ra, rg, rcap, hv, -, -, -, hr⟩ := OwnB.row h' (by decide)
    obtain ⟨ha, hc⟩ := hr.c0 hB_len h0 i hi
    cases hv
    cases ha
    exact ⟨cur, h5, h4, hc 1 (by decide), by have := hc 0 (by decide); rwa [Nat.add_zero] at this⟩

/-- One is set, as the program does. -/
def set1P (O : List Hd) (x : Hd) : List Hd := match O.findIdx? (isN x.n) with
  | some k => O.set k ⟨(O.getD k h0).n, x.v⟩
  | none => if O.length < 8 then O ++ [x] else O
theorem set1_at {O : List Hd} {x : Hd} {k : Nat} (h : idxN (isN x.n) O = k) : set1P O x = O.set k ⟨(O.getD k h0).n, x.v⟩ := by
  unfold idxN at h
  unfold set1P
  split at h
  · rename_i j hj
    have : j = k := by omega
    subst this
    rw [hj]
  · omega
theorem set1_no {O : List Hd} {x : Hd} (h : idxN (isN x.n) O = -1) : set1P O x = if O.length < 8 then O ++ [x] else O := by
  unfold idxN at h
  unfold set1P
  split at h
  · omega
  · rename_i hj
    rw [hj]
theorem set1_len (O : List Hd) (x : Hd) (m : Nat) (h : O.length ≤ m) (h8 : 8 ≤ m) : (set1P O x).length ≤ m := by
  unfold set1P
  split
  · rw [List.length_set]; exact h
  · split
    · rw [List.length_append, List.length_singleton]; omega
    · exact h
def setP (A B : List Hd) : List Hd := B.foldl set1P A
theorem setP_take (A B : List Hd) (k : Nat) (h : k < B.length) : setP A (B.take (k + 1)) = set1P (setP A (B.take k)) (B.getD k h0) := by
  unfold setP
  rw [List.take_succ_eq_append_getElem h, List.foldl_append, List.getD_eq_getElem?_getD, List.getElem?_eq_getElem h]
  rfl

theorem setP_len (A : List Hd) (m : Nat) (h8 : 8 ≤ m) (h : A.length ≤ m) : ∀ B, (setP A B).length ≤ m := by
  intro B
  unfold setP
  induction B generalizing A with
  | nil => exact h
  | cons x B ih => exact ih (set1P A x) (set1_len A x m h h8)
end Go.Proofs.Ytnmehmlenbbfbaa.heads
