/-
  Rows of records: how a slice of structs reads, whatever its records are.
-/
import Derived.Test.YtnmehmlenbbfbaaGen
import Derived.Test.YtnmehmlenbbfbaaTch
namespace Go.Proofs.Ytnmehmlenbbfbaa
open Go.ChangeShapes Go.WideShapes Go.ChangeAt Go.RowKit
set_option linter.unusedVariables false
set_option linter.unusedSimpArgs false

theorem blk_gby {w w' : World} {x p : Nat} {o : Obj} (h : w.heap[x]? = some o) (hg : w.grownBy w' (some p)) (hx : x ≠ p) : w'.heap[x]? = some o := by
  rw [hg.block x (lt_of_block h) (fun e => hx (by cases e; rfl))]; exact h
theorem blk_row {w w' : World} {x : Nat} {o : Obj} {row : Option Nat} (h : w.heap[x]? = some o) (hg : w.grownBy w' row) (hr : row ≠ some x) : w'.heap[x]? = some o := by
  rw [hg.block x (lt_of_block h) (fun e => hr e.symm)]; exact h
theorem blk_bl {w w' : World} {x : Nat} {o : Obj} (h : w.heap[x]? = some o) (hg : Bl w w') : w'.heap[x]? = some o := by
  rw [hg.block x (lt_of_block h)]; exact h

section
variable {α : Type} (enc : α → List Value) (sz : Nat)
/-- The cells of records, one behind the other. -/
def flatB : List α → List Value
  | [] => []
  | x :: l => enc x ++ flatB l
theorem flatB_app : ∀ A B, flatB enc (A ++ B) = flatB enc A ++ flatB enc B
  | [], B => rfl
  | x :: A, B => by simp only [List.cons_append, flatB, flatB_app A B, List.append_assoc]
theorem flatB_one (x : α) : flatB enc [x] = enc x := by simp [flatB]
theorem flatB_snoc (A : List α) (x : α) : flatB enc (A ++ [x]) = flatB enc A ++ enc x := by rw [flatB_app, flatB_one]
variable {enc sz}
theorem flatB_len (he : ∀ x, (enc x).length = sz) : ∀ A, (flatB enc A).length = A.length * sz
  | [] => by simp [flatB]
  | x :: A => by simp only [flatB, List.length_append, he, flatB_len he A, List.length_cons, Nat.succ_mul]; omega
theorem flatB_get (he : ∀ x, (enc x).length = sz) (d : α) (f : Nat) (hf : f < sz) : ∀ (A : List α) (i : Nat), i < A.length → (flatB enc A)[i * sz + f]? = (enc (A.getD i d))[f]?
  | [], i, hi => by simp at hi
  | x :: A, 0, _ => by
    simp only [flatB, Nat.zero_mul, Nat.zero_add, List.getD_cons_zero]
    rw [List.getElem?_append_left (by rw [he]; exact hf)]
  | x :: A, i + 1, hi => by
    have := flatB_get he d f hf A i (by simpa using hi)
    simp only [flatB, List.getD_cons_succ]
    rw [List.getElem?_append_right (by rw [he, Nat.succ_mul]; omega), he]
    rw [show (i + 1) * sz + f - sz = i * sz + f by rw [Nat.succ_mul]; omega]
    exact this

/-- A slice whose pointer is a reads as records: its cells lie in block g, from o on. -/
def RowB (enc : α → List Value) (sz : Nat) (w : World) (g o : Nat) (a : Option Addr) (A : List α) : Prop :=
  0 < A.length → a = some ⟨g, o, none⟩ ∧ ∃ cur T, w.heap[g]? = some (.cells cur T (0, 0)) ∧ ∀ j, j < A.length * sz → cur[o + j]? = (flatB enc A)[j]?
theorem RowB.kept {w w' : World} {g o a A} (h : RowB enc sz w g o a A) (hb : ∀ x, w.heap[g]? = some x → w'.heap[g]? = some x) : RowB enc sz w' g o a A := fun hl => by
  obtain ⟨h1, cur, T, h2, h3⟩ := h hl; exact ⟨h1, cur, T, hb _ h2, h3⟩
theorem RowB.bl {w w' : World} {g o a A} (h : RowB enc sz w g o a A) (hb : Bl w w') : RowB enc sz w' g o a A := h.kept (fun _ h => blk_bl h hb)
theorem RowB.gby {w w' : World} {g o a A p} (h : RowB enc sz w g o a A) (hb : w.grownBy w' (some p)) (hne : g ≠ p) : RowB enc sz w' g o a A := h.kept (fun _ h => blk_gby h hb hne)
theorem RowB.row {w w' : World} {g o a A row} (h : RowB enc sz w g o a A) (hb : w.grownBy w' row) (hne : row ≠ some g) : RowB enc sz w' g o a A := h.kept (fun _ h => blk_row h hb hne)
theorem RowB.tch {ps : Nat → Prop} {w w' : World} {g o a A} (h : RowB enc sz w g o a A) (hb : Tch ps w w') (hne : ¬ ps g) : RowB enc sz w' g o a A := h.kept (fun _ h => hb.var h hne)
theorem RowB.lt {w : World} {g o a A} (h : RowB enc sz w g o a A) (h0 : 0 < A.length) : g < w.heap.size := by
  obtain ⟨-, cur, T, h1, -⟩ := h h0; exact lt_of_block h1
/-- A row's block can be told to be another one than any that was not there when it was laid. -/
theorem RowB.ne {w : World} {g o p : Nat} {a : Option Addr} {A : List α} (h : RowB enc sz w g o a A) (hp : w.heap.size ≤ p) : ∃ g', g' ≠ p ∧ RowB enc sz w g' o a A := by
  by_cases h0 : 0 < A.length
  · have := h.lt h0
    exact ⟨g, by omega, h⟩
  · exact ⟨p + 1, by omega, fun h => absurd h h0⟩
theorem RowB.c {w : World} {g o a A} (h : RowB enc sz w g o a A) (he : ∀ x, (enc x).length = sz) (d : α) (i : Nat) (hi : i < A.length) : a = some ⟨g, o, none⟩ ∧ ∀ f, f < sz → w.cell? ⟨g, o + (i * sz + f), none⟩ = (enc (A.getD i d))[f]? := by
  obtain ⟨h1, cur, T, h2, h3⟩ := h (by omega)
  refine ⟨h1, fun f hf => ?_⟩
  have hm : i * sz + f < A.length * sz := by
    have : (i + 1) * sz ≤ A.length * sz := Nat.mul_le_mul_right sz hi
    rw [Nat.succ_mul] at this; omega
  rw [cell_at h2, h3 _ hm, flatB_get he d f hf A i hi]
/-- The same of a row that begins where its block begins. -/
theorem RowB.c0 {w : World} {g a A} (h : RowB enc sz w g 0 a A) (he : ∀ x, (enc x).length = sz) (d : α) (i : Nat) (hi : i < A.length) : a = some ⟨g, 0, none⟩ ∧ ∀ f, f < sz → w.cell? ⟨g, i * sz + f, none⟩ = (enc (A.getD i d))[f]? := by
  have := h.c he d i hi
  simp only [Nat.zero_add] at this
  exact this
/-- A part of a row, from a record on. -/
theorem RowB.part {w : World} {g o a A} (h : RowB enc sz w g o a A) (he : ∀ x, (enc x).length = sz) (i k : Nat) (hi : i + k ≤ A.length) : RowB enc sz w g (o + i * sz) (a.map fun x => ⟨x.block, x.off + i * sz, x.spot⟩) ((A.drop i).take k) := fun hl => by
  have hlen : ((A.drop i).take k).length = k := by rw [List.length_take, List.length_drop]; omega
  rw [hlen] at hl
  obtain ⟨h1, cur, T, h2, h3⟩ := h (by omega)
  refine ⟨by rw [h1]; rfl, cur, T, h2, fun j hj => ?_⟩
  rw [hlen] at hj
  have hk : (i + k) * sz ≤ A.length * sz := Nat.mul_le_mul_right sz hi
  rw [Nat.add_mul] at hk
  have e := h3 (i * sz + j) (by omega)
  rw [Nat.add_assoc, e]
  have hs : A = A.take i ++ ((A.drop i).take k ++ (A.drop i).drop k) := by rw [List.take_append_drop, List.take_append_drop]
  have hti : (flatB enc (A.take i)).length = i * sz := by rw [flatB_len he, List.length_take, Nat.min_eq_left (by omega)]
  have htk : (flatB enc ((A.drop i).take k)).length = k * sz := by rw [flatB_len he, hlen]
  conv => lhs; rw [hs]
  rw [flatB_app, flatB_app, List.getElem?_append_right (by omega), hti, List.getElem?_append_left (by omega)]
  congr 1
  omega

/-- A row of the call's own, of records. -/
def OwnB (enc : α → List Value) (sz : Nat) (e : TypeId) (w : World) (b : Nat) (v : Value) (A : List α) : Prop := w.ownsRow b e sz v A.length (flatB enc A)
theorem OwnB.gby {e : TypeId} {w w' : World} {b p : Nat} {v : Value} {A : List α} (h : OwnB enc sz e w b v A) (hg : w.grownBy w' (some p)) (hp : p < b) : OwnB enc sz e w' b v A := World.ownsRow.kept h hg (own_ne h hp)
theorem OwnB.bl {e : TypeId} {w w' : World} {b : Nat} {v : Value} {A : List α} (h : OwnB enc sz e w b v A) (hg : Bl w w') : OwnB enc sz e w' b v A := own_below h hg
theorem OwnB.nil (e : TypeId) (w : World) (b : Nat) : OwnB enc sz e w b (.slice none 0 0) [] := World.ownsRow_nil _ _ _ _
theorem OwnB.row {e : TypeId} {w : World} {b : Nat} {v : Value} {A : List α} (h : OwnB enc sz e w b v A) (hsz : 0 < sz) : ∃ a g cap, v = .slice a A.length cap ∧ b ≤ g ∧ A.length ≤ cap ∧ cap ≤ 9223372036854775807 ∧ RowB enc sz w g 0 a A := by
  obtain ⟨a, g, cap, cur, hv, hg, hr⟩ := own_blk h hsz
  have hc : A.length ≤ cap ∧ cap ≤ 9223372036854775807 := by
    by_cases h0 : 0 < A.length
    · exact (hr h0).2.2.1
    · obtain ⟨h1, h2⟩ := h
      rcases h2 with ⟨rfl, h3⟩ | ⟨g', cap', cur', h3, h4, h5, h6, h7, h8⟩
      · simp at hv; omega
      · rw [h3] at hv
        simp only [Value.slice.injEq] at hv
        obtain ⟨-, -, rfl⟩ := hv
        exact ⟨h6, h7⟩
  exact ⟨a, g, cap, hv, hg, hc.1, hc.2, fun hl => ⟨(hr hl).1, cur, e, (hr hl).2.1, fun j hj => by rw [Nat.zero_add]; exact (hr hl).2.2.2 j hj⟩⟩
theorem OwnB.base {e : TypeId} {w : World} {b c : Nat} {v : Value} {A : List α} (h : OwnB enc sz e w b v A) (hb : c ≤ b) : OwnB enc sz e w c v A := by
  refine ⟨h.1, ?_⟩
  rcases h.2 with h | ⟨g6, c6, u6, h1, h2, h3⟩
  · exact Or.inl h
  · exact Or.inr ⟨g6, c6, u6, h1, Nat.le_trans hb h2, h3⟩
end
/-! Blocks of unlike kinds are two. -/
theorem own_apart {w : World} {b s n g : Nat} {e t : TypeId} {v : Value} {xs : List Value} {cs : Array Value} {z : Nat × Nat} (h : w.ownsRow b e s v n xs) (hc : w.heap[g]? = some (.cells cs t z)) (he : e ≠ t) : v.ownBlock ≠ some g := by
  intro hv
  rcases h.2 with ⟨rfl, -⟩ | ⟨g', cap, cur, rfl, -, hg, -⟩
  · simp [Value.ownBlock] at hv
  · simp only [Value.ownBlock, Option.some.injEq] at hv
    subst hv
    rw [hg] at hc
    simp only [Option.some.injEq, Obj.cells.injEq] at hc
    exact he hc.2.1
theorem own_apart2 {w : World} {b1 s1 n1 b2 s2 n2 : Nat} {e1 e2 : TypeId} {v1 v2 : Value} {xs1 xs2 : List Value} (h1 : w.ownsRow b1 e1 s1 v1 n1 xs1) (h2 : w.ownsRow b2 e2 s2 v2 n2 xs2) (he : e1 ≠ e2) : v1.ownBlock = none ∨ v1.ownBlock ≠ v2.ownBlock := by
  rcases h2.2 with ⟨rfl, -⟩ | ⟨g', cap, cur, rfl, -, hg, -⟩
  · cases h : v1.ownBlock with
    | none => exact Or.inl rfl
    | some k => exact Or.inr (by simp [Value.ownBlock])
  · exact Or.inr (own_apart h1 hg he)
theorem own_map {w : World} {b s n g : Nat} {e : TypeId} {v : Value} {xs : List Value} {es : Array MapEntry} {c : Nat} (h : w.ownsRow b e s v n xs) (hc : w.heap[g]? = some (.map es c)) : v.ownBlock ≠ some g := by
  intro hv
  rcases h.2 with ⟨rfl, -⟩ | ⟨g', cap, cur, rfl, -, hg, -⟩
  · simp [Value.ownBlock] at hv
  · simp only [Value.ownBlock, Option.some.injEq] at hv
    subst hv
    rw [hg] at hc; cases hc
/-- Rows of numbers. -/
abbrev iB (n : Int) : List Value := [I n]
theorem flatB_ints : ∀ z : List Int, flatB iB z = z.map I
  | [] => rfl
  | x :: z => by show I x :: flatB iB z = _; rw [flatB_ints z]; rfl
end Go.Proofs.Ytnmehmlenbbfbaa
