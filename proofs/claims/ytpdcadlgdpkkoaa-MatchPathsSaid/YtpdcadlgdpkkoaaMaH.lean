/-
  Package match: to begin with is an order.
-/
import Derived.Test.YtpdcadlgdpkkoaaMaG
namespace Go.Proofs.Ytpdcadlgdpkkoaa.mat
open Go.ChangeShapes Go.WideShapes Go.ChangeAt Go.RowKit
open Go.Proofs.Ytpdcadlgdpkkoaa.heads
set_option linter.unusedVariables false
set_option linter.unusedSimpArgs false

theorem path_256 (k : Nat) : pathN k = pathN (k % 256) := by
  have key : pthL (k % 4) k ⟨#[]⟩ = pthL (k % 256 % 4) (k % 256) ⟨#[]⟩ := by
    rw [show k % 256 % 4 = k % 4 by omega]
    have hlt : k % 4 < 4 := by omega
    have e1 : k % 256 / 4 % 4 = k / 4 % 4 := by omega
    have e2 : k % 256 / 4 / 4 % 4 = k / 4 / 4 % 4 := by omega
    have e3 : k % 256 / 4 / 4 / 4 % 4 = k / 4 / 4 / 4 % 4 := by omega
    generalize hn : k % 4 = n at hlt ⊢
    match n, hlt with
    | 0, _ => rfl
    | 1, _ => simp only [pthL, e1]
    | 2, _ => simp only [pthL, e1, e2]
    | 3, _ => simp only [pthL, e1, e2, e3]
  unfold pathN
  rw [key]
abbrev pQ : ByteArray := ⟨#[47, 113]⟩
set_option maxRecDepth 100000 in
theorem path_all : ∀ k, k < 256 → pathF (pathN k) = true ∧ pathF (pathN k ++ pQ) = !(decide (pathN k = sl)) ∧ (pathN k).size ≤ 9 := by decide +kernel
theorem pathO_is (n : Int) : pathF (pathO n) = true ∧ pathF (pathO n ++ pQ) = !(decide (pathO n = sl)) ∧ (pathO n).size ≤ 9 := by
  have h := path_all ((around n 1000000).toNat % 256) (by omega)
  rw [← path_256] at h
  exact h
theorem app_list (a b : ByteArray) : (a ++ b).data.toList = a.data.toList ++ b.data.toList := by
  rw [ByteArray.data_append, Array.toList_append]
theorem list_inj {a b : ByteArray} (h : a.data.toList = b.data.toList) : a = b := by
  cases a; cases b
  simp at h
  rw [h]
theorem on_iff {a b : ByteArray} (hb : pathF b = true) : onF a false b = true ↔ b = a ∨ a = sl ∨ (a.data.toList ++ [47]) <+: b.data.toList := by
  unfold onF bgF Lib.hasPrefix
  rw [hb, app_list]
  simp
theorem path_ne {a : ByteArray} (h : pathF a = true) : 1 ≤ a.data.toList.length := by
  unfold pathF at h
  rw [Bool.and_eq_true] at h
  have := (of_decide_eq_true h.1).1
  rw [Array.length_toList]
  exact this
theorem on_self {a : ByteArray} (h : pathF a = true) : onF a false a = true := (on_iff h).2 (Or.inl rfl)
theorem on_root {a : ByteArray} (h : pathF a = true) : onF sl false a = true := (on_iff h).2 (Or.inr (Or.inl rfl))
theorem on_anti {a b : ByteArray} (ha : pathF a = true) (hb : pathF b = true) (h1 : onF a false b = true) (h2 : onF b false a = true) : a = b := by
  have la := path_ne ha
  have lb := path_ne hb
  rcases (on_iff hb).1 h1 with h | h | h
  · exact h.symm
  · rcases (on_iff ha).1 h2 with k | k | k
    · exact k
    · rw [h, k]
    · have := k.length_le
      rw [h, show sl.data.toList = [47] from rfl] at this
      simp only [List.length_append, List.length_cons, List.length_nil] at this
      omega
  · rcases (on_iff ha).1 h2 with k | k | k
    · exact k
    · have := h.length_le
      rw [k, show sl.data.toList = [47] from rfl] at this
      simp only [List.length_append, List.length_cons, List.length_nil] at this
      omega
    · have h1 := h.length_le
      have h2 := k.length_le
      simp only [List.length_append, List.length_cons, List.length_nil] at h1 h2
      omega
theorem on_trans {a b c : ByteArray} (ha : pathF a = true) (hb : pathF b = true) (hc : pathF c = true) (h1 : onF a false b = true) (h2 : onF b false c = true) : onF a false c = true := by
  rcases (on_iff hb).1 h1 with h | h | h
  · rw [← h]; exact h2
  · exact (on_iff hc).2 (Or.inr (Or.inl h))
  · rcases (on_iff hc).1 h2 with k | k | k
    · rw [k]; exact h1
    · have h1 := h.length_le
      have h2 := path_ne ha
      rw [k, show sl.data.toList = [47] from rfl] at h1
      simp only [List.length_append, List.length_cons, List.length_nil] at h1
      omega
    · exact (on_iff hc).2 (Or.inr (Or.inr ((h.trans (List.prefix_append _ _)).trans k)))
theorem on_tree {a b c : ByteArray} (ha : pathF a = true) (hb : pathF b = true) (hc : pathF c = true) (h1 : onF a false c = true) (h2 : onF b false c = true) : onF a false b = true ∨ onF b false a = true := by
  rcases (on_iff hc).1 h1 with h | h | h
  · rw [← h]; exact Or.inr h2
  · exact Or.inl ((on_iff hb).2 (Or.inr (Or.inl h)))
  · rcases (on_iff hc).1 h2 with k | k | k
    · rw [← k]; exact Or.inl h1
    · exact Or.inr ((on_iff ha).2 (Or.inr (Or.inl k)))
    · by_cases hl : a.data.toList.length = b.data.toList.length
      · left
        refine (on_iff hb).2 (Or.inl ?_)
        have e1 := List.prefix_iff_eq_take.1 h
        have e2 := List.prefix_iff_eq_take.1 k
        simp only [List.length_append, hl] at e1 e2
        have := e1.trans e2.symm
        exact list_inj (List.append_cancel_right this).symm
      · by_cases hlt : a.data.toList.length < b.data.toList.length
        · left
          refine (on_iff hb).2 (Or.inr (Or.inr ?_))
          exact List.prefix_of_prefix_length_le h ((List.prefix_append _ _).trans k) (by simp only [List.length_append, List.length_cons, List.length_nil]; omega)
        · right
          refine (on_iff ha).2 (Or.inr (Or.inr ?_))
          exact List.prefix_of_prefix_length_le k ((List.prefix_append _ _).trans h) (by simp only [List.length_append, List.length_cons, List.length_nil]; omega)
theorem on_q {c : ByteArray} (h : pathF (c ++ pQ) = !(decide (c = sl))) : onF c false (c ++ pQ) = !(decide (c = sl)) := by
  by_cases hc : c = sl
  · unfold onF
    rw [h, decide_eq_true hc]
    rfl
  · rw [decide_eq_false hc] at h ⊢
    refine (on_iff h).2 (Or.inr (Or.inr ?_))
    rw [app_list]
    exact ⟨[113], by simp⟩
theorem parts_path {a : ByteArray} (h : pathF a = true) (hn : a ≠ sl) : partsN a = a.data.toList.count 47 ∧ 1 ≤ partsN a := by
  have e : partsN a = a.data.toList.count 47 := by unfold partsN; rw [if_neg hn, cnt_all]
  refine ⟨e, ?_⟩
  rw [e]
  unfold pathF at h
  rw [Bool.and_eq_true] at h
  have hh := of_decide_eq_true h.1
  apply List.count_pos_iff.2
  have hb := Go.Proofs.Ytpdcadlgdpkkoaa.heads.byte_at a 0 (by omega)
  have h47 : (a[0]'(by omega)) = 47 := UInt8.toNat_inj.1 (by rw [hh.2.2] at hb; have : (47 : UInt8).toNat = 47 := rfl; omega)
  rw [← h47]
  have hd : 0 < a.data.size := by have := hh.1; exact this
  show a.data[0]'hd ∈ _
  exact Array.getElem_mem_toList _
theorem cmp_deep {a b : ByteArray} (ha : pathF a = true) (hb : pathF b = true) (h : onF a false b = true) (hn : a ≠ b) : cmp3 (bI false) (partsN b) (0 : Nat) (bI false) (partsN a) (0 : Nat) = -1 := by
  have hlt : partsN a < partsN b := by
    have hbs : b ≠ sl := fun hb2 => hn (on_anti ha hb h (by rw [hb2]; exact on_root ha))
    have pb := parts_path hb hbs
    by_cases has : a = sl
    · have : partsN a = 0 := by unfold partsN; rw [if_pos has]
      omega
    · have pa := parts_path ha has
      rcases (on_iff hb).1 h with k | k | k
      · exact absurd k.symm hn
      · exact absurd k has
      · obtain ⟨r, hr⟩ := k
        rw [pa.1, pb.1, ← hr]
        simp [List.count_append]
  unfold cmp3
  rw [if_neg (by simp), if_pos (by omega), if_pos (by omega)]
end Go.Proofs.Ytpdcadlgdpkkoaa.mat
