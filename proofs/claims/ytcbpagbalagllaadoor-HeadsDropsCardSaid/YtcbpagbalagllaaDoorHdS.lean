/-
  Package heads: what was dropped, in plain terms.
-/
import Derived.Test.YtcbpagbalagllaaDoorHdN
import Derived.Test.YtcbpagbalagllaaDoorHdL
import Derived.Test.YtcbpagbalagllaaDoorHdH
namespace Go.Proofs.YtcbpagbalagllaaDoor.heads
open Go.ChangeShapes Go.WideShapes Go.ChangeAt Go.RowKit
set_option linter.unusedVariables false
set_option linter.unusedSimpArgs false

theorem dropF_nil (A : List Hd) : dropF A [] = A := by
  unfold dropF inT
  simp
theorem inT_one (s x : ByteArray) : inT [s] x = decide (s = x) := by
  unfold inT; simp
theorem inT_cons (s x : ByteArray) (N : List ByteArray) : inT (s :: N) x = (decide (s = x) || inT N x) := by
  unfold inT; rw [List.any_cons]
theorem dropF_cons (A : List Hd) (N : List ByteArray) (s : ByteArray) : dropF (dropF A N) [s] = dropF A (s :: N) := by
  unfold dropF
  rw [List.filter_filter]
  congr 1
  funext x
  rw [inT_one, inT_cons]
  cases decide (s = x.n) <;> cases inT N x.n <;> rfl
theorem drop_len (A : List Hd) (N : List ByteArray) : (dropF A N).length ≤ A.length := List.length_filter_le _ _
theorem OkH.drop {A : List Hd} (h : OkH A) (N : List ByteArray) : OkH (dropF A N) := by
  refine ⟨Nat.le_trans (drop_len A N) h.len, ?_, fun x hx => h.may x (List.mem_filter.1 hx).1⟩
  exact (List.Sublist.map Hd.n (List.filter_sublist)).nodup h.two
theorem getV_in {A : List Hd} {N : List ByteArray} {s : ByteArray} (h : inT N s = true) : getV (dropF A N) s = .tuple #[S ByteArray.empty, .bool false] := by
  have : getH (dropF A N) s = none := by
    unfold getH
    rw [List.find?_eq_none]
    intro x hx hc
    have hxs : x.n = s := of_decide_eq_true hc
    have := (List.mem_filter.1 hx).2
    rw [hxs, h] at this
    simp at this
  unfold getV
  rw [this]
theorem find_nodup : ∀ {A : List Hd}, (A.map Hd.n).Nodup → ∀ x, x ∈ A → A.find? (isN x.n) = some x := by
  intro A
  induction A with
  | nil => intro _ x hx; cases hx
  | cons y A ih =>
    intro hn x hx
    rw [List.map_cons, List.nodup_cons] at hn
    rw [List.find?_cons]
    rcases List.mem_cons.1 hx with rfl | hx
    · rw [show isN x.n x = true from decide_eq_true rfl]
    · rw [show isN x.n y = false from decide_eq_false (fun e => hn.1 (by rw [e]; exact List.mem_map_of_mem hx))]
      exact ih hn.2 x hx
theorem getV_out {A : List Hd} (ok : OkH A) {N : List ByteArray} {k : Nat} (hk : k < A.length) (h : inT N (A.getD k h0).n = false) : getV (dropF A N) (A.getD k h0).n = .tuple #[S (A.getD k h0).v, .bool true] := by
  have hm : A.getD k h0 ∈ A := by
    rw [List.getD_eq_getElem?_getD, List.getElem?_eq_getElem hk]; exact List.getElem_mem _
  have : getH (dropF A N) (A.getD k h0).n = some (A.getD k h0) := by
    unfold getH
    exact find_nodup (ok.drop N).two _ (List.mem_filter.2 ⟨hm, by rw [h]; rfl⟩)
  unfold getV
  rw [this]
theorem drop_set (A : List Hd) (h : Hd) : dropF (set1R A h) [h.n] = dropF A [h.n] := by
  unfold set1R
  split
  · unfold dropF
    rw [List.filter_map]
    have : ∀ B : List Hd, (B.filter ((fun x : Hd => !inT [h.n] x.n) ∘ rep h)).map (rep h) = B.filter (fun x => !inT [h.n] x.n) := by
      intro B
      induction B with
      | nil => rfl
      | cons x B ih =>
        rw [List.filter_cons, List.filter_cons]
        by_cases hx : x.n = h.n
        · have e1 : rep h x = h := by unfold rep; rw [if_pos hx]
          rw [show ((fun x : Hd => !inT [h.n] x.n) ∘ rep h) x = false from by show (!inT [h.n] (rep h x).n) = false; rw [e1, inT_one]; simp]
          rw [show (!inT [h.n] x.n) = false from by rw [inT_one, hx]; simp]
          exact ih
        · have e1 : rep h x = x := by unfold rep; rw [if_neg hx]
          rw [show ((fun x : Hd => !inT [h.n] x.n) ∘ rep h) x = true from by show (!inT [h.n] (rep h x).n) = true; rw [e1, inT_one, decide_eq_false (fun e => hx (Eq.symm e))]; rfl]
          rw [show (!inT [h.n] x.n) = true from by rw [inT_one, decide_eq_false (fun e => hx (Eq.symm e))]; rfl]
          simp only [if_true]
          rw [List.map_cons, e1, ih]
    exact this A
  · split
    · unfold dropF
      rw [List.filter_append]
      have : [h].filter (fun x : Hd => !inT [h.n] x.n) = [] := by
        rw [List.filter_cons, show (!inT [h.n] h.n) = false from by rw [inT_one]; simp]; rfl
      rw [this, List.append_nil]
    · rfl
theorem drop_setP {A : List Hd} (ok : OkH A) {h : Hd} (hh : mayF h = true) : dropF (setP A [h]) [h.n] = dropF A [h.n] := by
  have := (set_same (B := [h]) (by intro x hx; have : x = h := by simpa using hx
                                   rw [this]; exact hh) ok).1
  rw [this]
  exact drop_set A h
theorem texts_lit (w : World) (s : ByteArray) : TextsAt (w.alloc (.cells #[S s] 9)) (.slice (some ⟨w.heap.size, 0, none⟩) 1 1) [s] :=
  ⟨_, w.heap.size, 0, 1, rfl, fun _ => ⟨rfl, _, _, heap_alloc_new w _, fun j hj => by
    have : j = 0 := by have : j < 1 * 1 := hj; omega
    subst this; rfl⟩⟩
theorem texts_nil (w : World) : TextsAt w (.slice none 0 0) [] := ⟨none, 0, 0, 0, rfl, fun h => by simp at h⟩
end Go.Proofs.YtcbpagbalagllaaDoor.heads
