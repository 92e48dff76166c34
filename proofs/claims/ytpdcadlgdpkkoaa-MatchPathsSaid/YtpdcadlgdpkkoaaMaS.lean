/-
  A row of bytes that a conversion made.
-/
import Derived.Test.YtpdcadlgdpkkoaaGen
import Derived.Lib.ConvBytes
import Derived.Laws.BytesArg
namespace Go.Proofs.Ytpdcadlgdpkkoaa
open Go.ChangeShapes Go.WideShapes Go.ChangeAt Go.RowKit
set_option linter.unusedVariables false
set_option linter.unusedSimpArgs false

/-- Block g holds these bytes ahead of what a conversion marks. -/
def ByteRow (w : World) (g m : Nat) (e : TypeId) (xs : List Int) : Prop := ∃ cs lo, w.heap[g]? = some (.cells cs e (lo, lo + 1)) ∧ xs.length = m ∧ m ≤ lo ∧ ∀ i, i < m → cs[i]? = some (.int .u8 (xs.getD i 0))
theorem set_atF {w : World} {p : Nat} {cs : Array Value} {t : TypeId} {fz : Nat × Nat} (i : Nat) (u : Value) (h : w.heap[p]? = some (.cells cs t fz)) : (w.setCell ⟨p, i, none⟩ u).heap[p]? = some (.cells (cs.setIfInBounds i u) t fz) := by
  have hlt := lt_of_block h
  have h' : w.heap[p] = .cells cs t fz := by simpa [Array.getElem?_eq_getElem hlt] using h
  show (w.heap.modify p _)[p]? = _
  rw [Array.getElem?_eq_getElem (by simpa using hlt), Array.getElem_modify_self, h']
  simp [Addr.spot]
theorem ByteRow.lt {w : World} {g m : Nat} {e : TypeId} {xs : List Int} (h : ByteRow w g m e xs) : g < w.heap.size := by
  obtain ⟨cs, lo, h1, -⟩ := h
  exact lt_of_block h1
theorem ByteRow.bl {w w' : World} {g m : Nat} {e : TypeId} {xs : List Int} (h : ByteRow w g m e xs) (hb : Bl w w') : ByteRow w' g m e xs := by
  obtain ⟨cs, lo, h1, h2⟩ := h
  exact ⟨cs, lo, by rw [hb.block g (lt_of_block h1)]; exact h1, h2⟩
theorem ByteRow.cell {w : World} {g m : Nat} {e : TypeId} {xs : List Int} (h : ByteRow w g m e xs) (i : Nat) (hi : i < m) : w.cell? ⟨g, i, none⟩ = some (.int .u8 (xs.getD i 0)) := by
  obtain ⟨cs, lo, h1, h2, h3, h4⟩ := h
  simp only [World.cell?, h1]
  exact h4 i hi
theorem ByteRow.free {w : World} {g m : Nat} {e : TypeId} {xs : List Int} (h : ByteRow w g m e xs) (i : Nat) (hi : i < m) : w.frozen? ⟨g, i, none⟩ = false := by
  obtain ⟨cs, lo, h1, h2, h3, h4⟩ := h
  unfold World.frozen?
  simp only [h1]
  have : ¬ lo ≤ i := by omega
  simp [this]
theorem ByteRow.set {w : World} {g m : Nat} {e : TypeId} {xs : List Int} (h : ByteRow w g m e xs) (j : Nat) (c : Int) : ByteRow (w.setCell ⟨g, j, none⟩ (.int .u8 c)) g m e (xs.set j c) := by
  obtain ⟨cs, lo, h1, h2, h3, h4⟩ := h
  refine ⟨_, lo, set_atF j _ h1, by rw [List.length_set]; exact h2, h3, fun i hi => ?_⟩
  rw [Array.getElem?_setIfInBounds]
  have hcs : i < cs.size := by
    have := h4 i hi
    rcases Nat.lt_or_ge i cs.size with h | h
    · exact h
    · rw [Array.getElem?_eq_none h] at this; cases this
  by_cases hij : j = i
  · subst hij
    rw [if_pos rfl, if_pos hcs, List.getD_eq_getElem?_getD, List.getElem?_set_self (by omega)]
    rfl
  · rw [if_neg hij, h4 i hi, List.getD_eq_getElem?_getD, List.getD_eq_getElem?_getD, List.getElem?_set_ne hij]
theorem ByteRow.text {P : Program} {w : World} {g m : Nat} {e src dst : TypeId} {xs : List Int} (h : ByteRow w g m e xs) (hs : P.underlying src = some (.slice e)) (he : P.underlying e = some (.int .u8)) (hd : P.underlying dst = some .string) (cap : Nat) :
    (convert src dst (.slice (some ⟨g, 0, none⟩) m cap)).run P w = .ok (.string (strOfNums xs)) w :=
  run_convert_bytes_arg w src e hs he g 0 m cap xs (by obtain ⟨cs, lo, h1, h2, -⟩ := h; exact h2) (fun i hi => by rw [Nat.zero_add]; exact h.cell i hi) dst hd
theorem bytes_row (w : World) (e : TypeId) (s : ByteArray) : ByteRow (Lib.bytesWorld w e s) w.heap.size s.size e (s.data.toList.map fun b => (b.toNat : Int)) := by
  refine ⟨_, _, Lib.bytesWorld_at_new w e s, by rw [List.length_map, Array.length_toList]; rfl, by unfold Lib.bytesCells; rw [Array.size_append, Array.size_map]; exact Nat.le_add_right _ _, fun i hi => ?_⟩
  have h := Lib.bytesWorld_cell w e s i hi
  simp only [World.cell?, Lib.bytesWorld_at_new] at h
  have hl : i < s.data.toList.length := by rw [Array.length_toList]; exact hi
  rw [List.getD_eq_getElem?_getD, List.getElem?_map, List.getElem?_eq_getElem hl]
  rw [List.getD_eq_getElem?_getD, List.getElem?_eq_getElem hl] at h
  exact h
theorem bytes_bl (w : World) (e : TypeId) (s : ByteArray) : Bl w (Lib.bytesWorld w e s) := by
  refine ⟨?_, ?_, ?_, by rw [Lib.bytesWorld_size]; omega, fun i hi => Lib.bytesWorld_at_old w e s i hi⟩
  all_goals (unfold Lib.bytesWorld World.freeze; rfl)
end Go.Proofs.Ytpdcadlgdpkkoaa
